/- Contracts of the reference's sign, Token, blank, Value. -/
import Derived.Test.YtolikoediafkkaaDoorHeadPlain
import Derived.Test.YtolikoediafkkaaDoorStrFacts
import Derived.Deep.Cut
import Derived.Handy
namespace Go.Proofs.YtolikoediafkkaaDoor
open Go.ChangeShapes Go.WideShapes Go.ChangeAt Go.RowKit
set_option linter.unusedVariables false
set_option linter.unusedSimpArgs false

def othS : List UInt8 := [33, 35, 36, 37, 38, 39, 42, 43, 45, 46, 94, 95, 96, 124, 126]
theorem tok_letter (c : UInt8) (h : 97 ≤ c.toNat ∧ c.toNat ≤ 122 ∨ 65 ≤ c.toNat ∧ c.toNat ≤ 90 ∨ 48 ≤ c.toNat ∧ c.toNat ≤ 57) : tokB c = true := by
  revert h
  refine each_byte (p := fun c => 97 ≤ c.toNat ∧ c.toNat ≤ 122 ∨ 65 ≤ c.toNat ∧ c.toNat ≤ 90 ∨ 48 ≤ c.toNat ∧ c.toNat ≤ 57 → tokB c = true) ?_ c
  decide +kernel
theorem tok_sign (c : UInt8) (h : ¬ (97 ≤ c.toNat ∧ c.toNat ≤ 122 ∨ 65 ≤ c.toNat ∧ c.toNat ≤ 90 ∨ 48 ≤ c.toNat ∧ c.toNat ≤ 57)) : tokB c = othS.contains c := by
  revert h
  refine each_byte (p := fun c => ¬ (97 ≤ c.toNat ∧ c.toNat ≤ 122 ∨ 65 ≤ c.toNat ∧ c.toNat ≤ 90 ∨ 48 ≤ c.toNat ∧ c.toNat ≤ 57) → tokB c = othS.contains c) ?_ c
  decide +kernel
theorem oth_at (k : Nat) (h : k < 15) : othS[k]? = some (othS.getD k 0) := by
  have : ∀ k : Fin 15, othS[k.val]? = some (othS.getD k.val 0) := by decide
  exact this ⟨k, h⟩
theorem oth_mem (k : Nat) (h : k < 15) : othS.contains (othS.getD k 0) = true := by
  have : ∀ k : Fin 15, othS.contains (othS.getD k.val 0) = true := by decide
  exact this ⟨k, h⟩
theorem oth_no (c : UInt8) (h : ∀ j, j < 15 → othS.getD j 0 ≠ c) : othS.contains c = false := by
  cases hc : othS.contains c
  · rfl
  · exfalso
    have hm : c ∈ othS := by simpa using hc
    obtain ⟨j, hj, e⟩ := List.mem_iff_getElem.1 hm
    have hj' : j < 15 := hj
    refine h j hj' ?_
    rw [List.getD_eq_getElem?_getD, List.getElem?_eq_getElem hj, e]; rfl
set_option maxHeartbeats 2000000 in
theorem refsign_any (c : UInt8) (w : World) :
    Calls Tryd.prog 50 #[.int .u8 (c.toNat : Int)] w fun e w' => e = .returned (.bool (tokB c)) ∧ w = w' := by
  have hcl := c.toNat_lt
  have HL := hideIt (tok_letter c)
  have HS := hideIt (tok_sign c)
  have HIT : Hid (∀ k, k < 15 → othS.getD k 0 = c → othS.contains c = true) := hideIt fun k hk e => by rw [← e]; exact oth_mem k hk
  have HNO := hideIt (oth_no c)
  obtain ⟨R, hR⟩ : ∃ R, tokB c = R := ⟨_, rfl⟩
  rw [hR] at HL HS ⊢
  clear hR
  generalize hu : c.toNat = u at *
  have HU := hideIt hu
  clear hu
  rcases (by omega : 97 ≤ u ∧ u ≤ 122 ∨ 65 ≤ u ∧ u ≤ 90 ∨ 48 ≤ u ∧ u ≤ 57 ∨ 122 < u ∨ 90 < u ∧ u < 97 ∨ 57 < u ∧ u < 65 ∨ u < 48) with ⟨h1, h2⟩ | ⟨h1, h2⟩ | ⟨h1, h2⟩ | h1 | ⟨h1, h2⟩ | ⟨h1, h2⟩ | h1
  · have E := hideIt (HL.out (.inl ⟨h1, h2⟩))
    have q1 : (97 : Int) ≤ (u : Int) := by omega
    have q2 : (u : Int) ≤ 122 := by omega
    clear h1 h2 HL HS HIT HNO hcl
    go_enter Tryd.func50, Tryd.ntmps50
    go_wp2_with fail
    go_ret
    exact ⟨by rw [E.out]; rfl, rfl⟩
  · have E := hideIt (HL.out (.inr (.inl ⟨h1, h2⟩)))
    have q1 : ¬ (97 : Int) ≤ (u : Int) := by omega
    have q2 : (65 : Int) ≤ (u : Int) := by omega
    have q3 : (u : Int) ≤ 90 := by omega
    clear h1 h2 HL HS HIT HNO hcl
    go_enter Tryd.func50, Tryd.ntmps50
    go_wp2_with fail
    go_ret
    exact ⟨by rw [E.out]; rfl, rfl⟩
  · have E := hideIt (HL.out (.inr (.inr ⟨h1, h2⟩)))
    have q1 : ¬ (97 : Int) ≤ (u : Int) := by omega
    have q2 : ¬ (65 : Int) ≤ (u : Int) := by omega
    have q3 : (48 : Int) ≤ (u : Int) := by omega
    have q4 : (u : Int) ≤ 57 := by omega
    clear h1 h2 HL HS HIT HNO hcl
    go_enter Tryd.func50, Tryd.ntmps50
    go_wp2_with fail
    go_ret
    exact ⟨by rw [E.out]; rfl, rfl⟩
  · have E := hideIt (HS.out (by omega))
    have q1 : (97 : Int) ≤ (u : Int) := by omega
    have q2 : ¬ (u : Int) ≤ 122 := by omega
    have q3 : (65 : Int) ≤ (u : Int) := by omega
    have q4 : ¬ (u : Int) ≤ 90 := by omega
    have q5 : (48 : Int) ≤ (u : Int) := by omega
    have q6 : ¬ (u : Int) ≤ 57 := by omega
    clear h1 HL HS hcl
    (try clear h2)
    go_enter Tryd.func50, Tryd.ntmps50
    go_wp2_with fail
    go_loop [3] (fun i => ∃ k : Nat, k ≤ 15 ∧ i = .int .i64 (k : Int) ∧ ∀ j, j < k → othS.getD j 0 ≠ c) (fun i => 15 - (intOf i).toNat)
    case atStart => exact ⟨0, by omega, rfl, fun j hj => by omega⟩
    case round =>
      obtain ⟨k, hk, rfl, ha⟩ := hrel
      have HA := hideIt ha
      clear ha
      by_cases hk15 : k < 15
      · have hix : ∀ w, (Instr.index 9 (.string ⟨#[33, 35, 36, 37, 38, 39, 42, 43, 45, 46, 94, 95, 96, 124, 126]⟩) (.int .i64 (k : Int))).run Tryd.prog w = .ok (.int .u8 ((othS.getD k 0).toNat : Int)) w := fun w => by
          obtain ⟨h2, h3⟩ := List.getElem?_eq_some_iff.1 (oth_at k hk15)
          have := run_index_str w othS .i64 k h2
          rw [h3] at this
          exact this
        by_cases hd : othS.getD k 0 = c
        · have E2 : Hid (R = true) := hideIt (by rw [E.out]; exact HIT.out k hk15 hd)
          have he : (othS.getD k 0).toNat = u := by rw [hd]; exact HU.out
          rw [he] at hix
          clear he hd
          go_wp2_with fail
          go_ret
          exact ⟨by rw [E2.out]; rfl, rfl⟩
        · have he : (((othS.getD k 0).toNat : Int) == (u : Int)) = false := by rw [beq_eq_false_iff_ne]; exact fun h => hd (UInt8.toNat_inj.1 (by have := HU.out; omega))
          have HD := hideIt hd
          clear hd
          generalize (othS.getD k 0).toNat = v at *
          go_wp2_with fail
          go_round
          case rel => exact ⟨k + 1, by omega, by go_num, fun j hj => by
            rcases Nat.lt_or_ge j k with h | h
            · exact HA.out j h
            · obtain rfl : j = k := by omega
              exact HD.out⟩
          case measure => simp [intOf]; omega
      · obtain rfl : k = 15 := by omega
        have E2 : Hid (R = false) := hideIt (by rw [E.out]; exact HNO.out HA.out)
        go_wp2_with fail
        go_ret
        exact ⟨by rw [E2.out]; rfl, rfl⟩
  · have E := hideIt (HS.out (by omega))
    have q1 : ¬ (97 : Int) ≤ (u : Int) := by omega
    have q3 : (65 : Int) ≤ (u : Int) := by omega
    have q4 : ¬ (u : Int) ≤ 90 := by omega
    have q5 : (48 : Int) ≤ (u : Int) := by omega
    have q6 : ¬ (u : Int) ≤ 57 := by omega
    clear h1 HL HS hcl
    (try clear h2)
    go_enter Tryd.func50, Tryd.ntmps50
    go_wp2_with fail
    go_loop [3] (fun i => ∃ k : Nat, k ≤ 15 ∧ i = .int .i64 (k : Int) ∧ ∀ j, j < k → othS.getD j 0 ≠ c) (fun i => 15 - (intOf i).toNat)
    case atStart => exact ⟨0, by omega, rfl, fun j hj => by omega⟩
    case round =>
      obtain ⟨k, hk, rfl, ha⟩ := hrel
      have HA := hideIt ha
      clear ha
      by_cases hk15 : k < 15
      · have hix : ∀ w, (Instr.index 9 (.string ⟨#[33, 35, 36, 37, 38, 39, 42, 43, 45, 46, 94, 95, 96, 124, 126]⟩) (.int .i64 (k : Int))).run Tryd.prog w = .ok (.int .u8 ((othS.getD k 0).toNat : Int)) w := fun w => by
          obtain ⟨h2, h3⟩ := List.getElem?_eq_some_iff.1 (oth_at k hk15)
          have := run_index_str w othS .i64 k h2
          rw [h3] at this
          exact this
        by_cases hd : othS.getD k 0 = c
        · have E2 : Hid (R = true) := hideIt (by rw [E.out]; exact HIT.out k hk15 hd)
          have he : (othS.getD k 0).toNat = u := by rw [hd]; exact HU.out
          rw [he] at hix
          clear he hd
          go_wp2_with fail
          go_ret
          exact ⟨by rw [E2.out]; rfl, rfl⟩
        · have he : (((othS.getD k 0).toNat : Int) == (u : Int)) = false := by rw [beq_eq_false_iff_ne]; exact fun h => hd (UInt8.toNat_inj.1 (by have := HU.out; omega))
          have HD := hideIt hd
          clear hd
          generalize (othS.getD k 0).toNat = v at *
          go_wp2_with fail
          go_round
          case rel => exact ⟨k + 1, by omega, by go_num, fun j hj => by
            rcases Nat.lt_or_ge j k with h | h
            · exact HA.out j h
            · obtain rfl : j = k := by omega
              exact HD.out⟩
          case measure => simp [intOf]; omega
      · obtain rfl : k = 15 := by omega
        have E2 : Hid (R = false) := hideIt (by rw [E.out]; exact HNO.out HA.out)
        go_wp2_with fail
        go_ret
        exact ⟨by rw [E2.out]; rfl, rfl⟩
  · have E := hideIt (HS.out (by omega))
    have q1 : ¬ (97 : Int) ≤ (u : Int) := by omega
    have q3 : ¬ (65 : Int) ≤ (u : Int) := by omega
    have q5 : (48 : Int) ≤ (u : Int) := by omega
    have q6 : ¬ (u : Int) ≤ 57 := by omega
    clear h1 HL HS hcl
    (try clear h2)
    go_enter Tryd.func50, Tryd.ntmps50
    go_wp2_with fail
    go_loop [3] (fun i => ∃ k : Nat, k ≤ 15 ∧ i = .int .i64 (k : Int) ∧ ∀ j, j < k → othS.getD j 0 ≠ c) (fun i => 15 - (intOf i).toNat)
    case atStart => exact ⟨0, by omega, rfl, fun j hj => by omega⟩
    case round =>
      obtain ⟨k, hk, rfl, ha⟩ := hrel
      have HA := hideIt ha
      clear ha
      by_cases hk15 : k < 15
      · have hix : ∀ w, (Instr.index 9 (.string ⟨#[33, 35, 36, 37, 38, 39, 42, 43, 45, 46, 94, 95, 96, 124, 126]⟩) (.int .i64 (k : Int))).run Tryd.prog w = .ok (.int .u8 ((othS.getD k 0).toNat : Int)) w := fun w => by
          obtain ⟨h2, h3⟩ := List.getElem?_eq_some_iff.1 (oth_at k hk15)
          have := run_index_str w othS .i64 k h2
          rw [h3] at this
          exact this
        by_cases hd : othS.getD k 0 = c
        · have E2 : Hid (R = true) := hideIt (by rw [E.out]; exact HIT.out k hk15 hd)
          have he : (othS.getD k 0).toNat = u := by rw [hd]; exact HU.out
          rw [he] at hix
          clear he hd
          go_wp2_with fail
          go_ret
          exact ⟨by rw [E2.out]; rfl, rfl⟩
        · have he : (((othS.getD k 0).toNat : Int) == (u : Int)) = false := by rw [beq_eq_false_iff_ne]; exact fun h => hd (UInt8.toNat_inj.1 (by have := HU.out; omega))
          have HD := hideIt hd
          clear hd
          generalize (othS.getD k 0).toNat = v at *
          go_wp2_with fail
          go_round
          case rel => exact ⟨k + 1, by omega, by go_num, fun j hj => by
            rcases Nat.lt_or_ge j k with h | h
            · exact HA.out j h
            · obtain rfl : j = k := by omega
              exact HD.out⟩
          case measure => simp [intOf]; omega
      · obtain rfl : k = 15 := by omega
        have E2 : Hid (R = false) := hideIt (by rw [E.out]; exact HNO.out HA.out)
        go_wp2_with fail
        go_ret
        exact ⟨by rw [E2.out]; rfl, rfl⟩
  · have E := hideIt (HS.out (by omega))
    have q1 : ¬ (97 : Int) ≤ (u : Int) := by omega
    have q3 : ¬ (65 : Int) ≤ (u : Int) := by omega
    have q5 : ¬ (48 : Int) ≤ (u : Int) := by omega
    clear h1 HL HS hcl
    (try clear h2)
    go_enter Tryd.func50, Tryd.ntmps50
    go_wp2_with fail
    go_loop [3] (fun i => ∃ k : Nat, k ≤ 15 ∧ i = .int .i64 (k : Int) ∧ ∀ j, j < k → othS.getD j 0 ≠ c) (fun i => 15 - (intOf i).toNat)
    case atStart => exact ⟨0, by omega, rfl, fun j hj => by omega⟩
    case round =>
      obtain ⟨k, hk, rfl, ha⟩ := hrel
      have HA := hideIt ha
      clear ha
      by_cases hk15 : k < 15
      · have hix : ∀ w, (Instr.index 9 (.string ⟨#[33, 35, 36, 37, 38, 39, 42, 43, 45, 46, 94, 95, 96, 124, 126]⟩) (.int .i64 (k : Int))).run Tryd.prog w = .ok (.int .u8 ((othS.getD k 0).toNat : Int)) w := fun w => by
          obtain ⟨h2, h3⟩ := List.getElem?_eq_some_iff.1 (oth_at k hk15)
          have := run_index_str w othS .i64 k h2
          rw [h3] at this
          exact this
        by_cases hd : othS.getD k 0 = c
        · have E2 : Hid (R = true) := hideIt (by rw [E.out]; exact HIT.out k hk15 hd)
          have he : (othS.getD k 0).toNat = u := by rw [hd]; exact HU.out
          rw [he] at hix
          clear he hd
          go_wp2_with fail
          go_ret
          exact ⟨by rw [E2.out]; rfl, rfl⟩
        · have he : (((othS.getD k 0).toNat : Int) == (u : Int)) = false := by rw [beq_eq_false_iff_ne]; exact fun h => hd (UInt8.toNat_inj.1 (by have := HU.out; omega))
          have HD := hideIt hd
          clear hd
          generalize (othS.getD k 0).toNat = v at *
          go_wp2_with fail
          go_round
          case rel => exact ⟨k + 1, by omega, by go_num, fun j hj => by
            rcases Nat.lt_or_ge j k with h | h
            · exact HA.out j h
            · obtain rfl : j = k := by omega
              exact HD.out⟩
          case measure => simp [intOf]; omega
      · obtain rfl : k = 15 := by omega
        have E2 : Hid (R = false) := hideIt (by rw [E.out]; exact HNO.out HA.out)
        go_wp2_with fail
        go_ret
        exact ⟨by rw [E2.out]; rfl, rfl⟩
theorem go_refsign : goFn Tryd.prog 50 = true := by kernel_rfl
set_option maxHeartbeats 1000000 in
theorem reftoken_any (l : List UInt8) (w : World) (hl : l.length ≤ 1000000) :
    Calls Tryd.prog 38 #[.string (strOf l)] w fun e w' => e = .returned (.bool (tokenL l)) ∧ w = w' := by
  have hsz := strOf_size l
  obtain ⟨R, hR⟩ : ∃ R, tokenL l = R := ⟨_, rfl⟩
  rw [hR]
  have HR := hideIt hR
  clear hR
  go_enter Tryd.func38, Tryd.ntmps38
  go_wp2
  go_loop [3] (fun i => ∃ k : Nat, k ≤ l.length ∧ i = .int .i64 (k : Int) ∧ (l.take k).all tokB = true) (fun i => l.length - (intOf i).toNat)
  case atStart => exact ⟨0, by omega, rfl, rfl⟩
  case round =>
    obtain ⟨k, hk, rfl, ha⟩ := hrel
    have HA := hideIt ha
    clear ha
    by_cases hlt : k < l.length
    · have hlt' : (k : Int) < (l.length : Int) := by omega
      have hix : ∀ w, (Instr.index 9 (.string (strOf l)) (.int .i64 (k : Int))).run Tryd.prog w = .ok (.int .u8 ((l[k]).toNat : Int)) w := fun w => run_index_str w l .i64 k hlt
      have HC := hideIt (refsign_any l[k])
      have hwk : IntKind.i64.wrap ((k : Int) + 1) = (k : Int) + 1 := IntWalk.i64_in _ (by omega)
      cases ht : tokB l[k]
      · rw [ht] at HC
        have E : Hid (R = false) := hideIt (by rw [← HR.out, tokenL, all_not tokB l k hlt ht]; rfl)
        clear ht HA
        generalize (l[k]).toNat = u at *
        go_wp2_with fail
        refine (HC.out _).mono ?_
        rintro e w2 ⟨rfl, rfl⟩
        go_wp2_with fail
        go_ret
        exact ⟨by rw [E.out]; rfl, rfl⟩
      · rw [ht] at HC
        have N : Hid ((l.take (k + 1)).all tokB = true) := hideIt (all_step tokB l k (k + 1) (by omega) hlt HA.out fun j hj h1 h2 => by
          obtain rfl : j = k := by omega
          exact ht)
        clear ht
        generalize (l[k]).toNat = u at *
        go_wp2_with fail
        refine (HC.out _).mono ?_
        rintro e w2 ⟨rfl, rfl⟩
        go_wp2_with fail
        go_round
        case rel => exact ⟨k + 1, by omega, by go_num, N.out⟩
        case measure => simp [intOf]; omega
    · obtain rfl : k = l.length := by omega
      have hlt' : ¬ (l.length : Int) < (l.length : Int) := by omega
      have E : Hid (R = decide (0 < l.length)) := hideIt (by
        have h1 := HA.out
        rw [List.take_length] at h1
        rw [← HR.out, tokenL, h1, Bool.true_and]
        refine decide_eq_decide.2 ⟨fun h => ?_, fun h e => ?_⟩
        · have := List.length_pos_iff.2 h
          omega
        · rw [e] at h; simp at h)
      go_wp2_with fail
      go_ret
      exact ⟨by rw [E.out]; rfl, rfl⟩
theorem go_reftoken : goFn Tryd.prog 38 = true := by kernel_rfl
set_option maxHeartbeats 1000000 in
theorem refblank_any (c : UInt8) (w : World) :
    Calls Tryd.prog 51 #[.int .u8 (c.toNat : Int)] w fun e w' => e = .returned (.bool (blankB c)) ∧ w = w' := by
  have hcl := c.toNat_lt
  unfold blankB
  generalize c.toNat = u at *
  rcases (by omega : u = 32 ∨ u = 9 ∨ (u ≠ 32 ∧ u ≠ 9)) with rfl | rfl | ⟨h1, h2⟩
  · go_enter Tryd.func51, Tryd.ntmps51
    go_wp2_with fail
    go_ret
    exact ⟨rfl, rfl⟩
  · go_enter Tryd.func51, Tryd.ntmps51
    go_wp2_with fail
    go_ret
    exact ⟨rfl, rfl⟩
  · rw [decide_eq_false h1, decide_eq_false h2]
    have q1 : ((u : Int) == 32) = false := by rw [beq_eq_false_iff_ne]; omega
    have q2 : ((u : Int) == 9) = false := by rw [beq_eq_false_iff_ne]; omega
    clear h1 h2
    go_enter Tryd.func51, Tryd.ntmps51
    go_wp2_with fail
    go_ret
    exact ⟨rfl, rfl⟩
theorem go_refblank : goFn Tryd.prog 51 = true := by kernel_rfl
/-- a value, by the signs at its ends -/
theorem value_ends (l : List UInt8) : decide (l = trimL l) = (decide (l.length = 0) || (!((l.head?).map blankB).getD false && !((l.getLast?).map blankB).getD false)) := by
  cases l with
  | nil => rfl
  | cons a r =>
    obtain ⟨y, hy⟩ : ∃ y, (a :: r).getLast? = some y := ⟨_, List.getLast?_eq_some_getLast (by simp)⟩
    rw [hy]
    have h0 : ¬ (a :: r).length = 0 := by simp
    rw [decide_eq_false h0, Bool.false_or]
    simp only [List.head?_cons, Option.map_some, Option.getD_some]
    rw [Bool.eq_iff_iff]
    simp only [decide_eq_true_eq, Bool.and_eq_true, Bool.not_eq_true']
    rw [trim_fix]
    constructor
    · rintro (h | ⟨⟨x, hx, b1⟩, z, hz, b2⟩)
      · cases h
      · simp at hx
        subst hx
        rw [hy] at hz
        cases hz
        exact ⟨b1, b2⟩
    · rintro ⟨h1, h2⟩
      exact .inr ⟨⟨a, rfl, h1⟩, y, hy, h2⟩
set_option maxHeartbeats 2000000 in
theorem refvalue_any (l : List UInt8) (w : World) (hl : l.length ≤ 1000000) :
    Calls Tryd.prog 39 #[.string (strOf l)] w fun e w' => e = .returned (.bool (valueL l)) ∧ w = w' := by
  have hsz := strOf_size l
  obtain ⟨R, hR⟩ : ∃ R, valueL l = R := ⟨_, rfl⟩
  rw [hR]
  have HR := hideIt hR
  clear hR
  go_enter Tryd.func39, Tryd.ntmps39
  go_wp2
  go_loop [3] (fun i => ∃ k : Nat, k ≤ l.length ∧ i = .int .i64 (k : Int) ∧ (l.take k).all valB = true) (fun i => l.length - (intOf i).toNat)
  case atStart => exact ⟨0, by omega, rfl, rfl⟩
  case round =>
    obtain ⟨k, hk, rfl, ha⟩ := hrel
    have HA := hideIt ha
    clear ha
    by_cases hlt : k < l.length
    · have hlt' : (k : Int) < (l.length : Int) := by omega
      have hix : ∀ w, (Instr.index 9 (.string (strOf l)) (.int .i64 (k : Int))).run Tryd.prog w = .ok (.int .u8 ((l[k]).toNat : Int)) w := fun w => run_index_str w l .i64 k hlt
      have HC := hideIt (refblank_any l[k])
      have hwk : IntKind.i64.wrap ((k : Int) + 1) = (k : Int) + 1 := IntWalk.i64_in _ (by omega)
      have hv := valB_is l[k]
      have NXT : Hid (valB l[k] = true → (l.take (k + 1)).all valB = true) := hideIt fun hv => all_step valB l k (k + 1) (by omega) hlt HA.out fun j hj h1 h2 => by
        obtain rfl : j = k := by omega
        exact hv
      have NO : Hid (valB l[k] = false → R = false) := hideIt fun hv => by rw [← HR.out, valueL, all_not valB l k hlt hv]; rfl
      clear HA HR
      rw [hv] at NXT NO
      clear hv
      cases hb : blankB l[k]
      · rw [hb] at HC NXT NO
        clear hb
        generalize (l[k]).toNat = u at *
        rcases (by omega : u < 33 ∨ u = 127 ∨ (33 ≤ u ∧ u ≠ 127)) with h1 | rfl | ⟨h1, h2⟩
        · have E := hideIt (NO.out (by rw [decide_eq_true h1]; rfl))
          have q1 : (u : Int) < 33 := by omega
          clear h1 NXT NO
          go_wp2_with fail
          refine (HC.out _).mono ?_
          rintro e w2 ⟨rfl, rfl⟩
          go_wp2_with fail
          go_ret
          exact ⟨by rw [E.out]; rfl, rfl⟩
        · have E := hideIt (NO.out rfl)
          clear NXT NO
          go_wp2_with fail
          refine (HC.out _).mono ?_
          rintro e w2 ⟨rfl, rfl⟩
          go_wp2_with fail
          go_ret
          exact ⟨by rw [E.out]; rfl, rfl⟩
        · have N := hideIt (NXT.out (by rw [decide_eq_false (by omega : ¬ u < 33), decide_eq_false h2]; rfl))
          have q1 : ¬ (u : Int) < 33 := by omega
          have q2 : ((u : Int) == 127) = false := by rw [beq_eq_false_iff_ne]; omega
          clear h1 h2 NXT NO
          go_wp2_with fail
          refine (HC.out _).mono ?_
          rintro e w2 ⟨rfl, rfl⟩
          go_wp2_with fail
          go_round
          case rel => exact ⟨k + 1, by omega, by go_num, N.out⟩
          case measure => simp [intOf]; omega
      · rw [hb] at HC NXT NO
        have N := hideIt (NXT.out rfl)
        clear hb NXT NO
        generalize (l[k]).toNat = u at *
        go_wp2_with fail
        refine (HC.out _).mono ?_
        rintro e w2 ⟨rfl, rfl⟩
        go_wp2_with fail
        go_round
        case rel => exact ⟨k + 1, by omega, by go_num, N.out⟩
        case measure => simp [intOf]; omega
    · obtain rfl : k = l.length := by omega
      have hlt' : ¬ (l.length : Int) < (l.length : Int) := by omega
      have E : Hid (R = (decide (l.length = 0) || (!((l.head?).map blankB).getD false && !((l.getLast?).map blankB).getD false))) := hideIt (by
        have h1 := HA.out
        rw [List.take_length] at h1
        rw [← HR.out, valueL, h1, Bool.true_and, value_ends])
      clear HR HA
      by_cases h0 : l.length = 0
      · have q0 : ((l.length : Int) == 0) = true := by rw [beq_iff_eq]; omega
        have E2 : Hid (R = true) := hideIt (by rw [E.out, decide_eq_true h0]; rfl)
        clear E h0
        go_wp2_with fail
        go_ret
        exact ⟨by rw [E2.out]; rfl, rfl⟩
      · have q0 : ((l.length : Int) == 0) = false := by rw [beq_eq_false_iff_ne]; omega
        have hwl : IntKind.i64.wrap ((l.length : Int) - 1) = (((l.length - 1 : Nat)) : Int) := by rw [IntWalk.i64_in _ (by omega)]; omega
        have hx0 : ∀ w, (Instr.index 9 (.string (strOf l)) (.int .i64 0)).run Tryd.prog w = .ok (.int .u8 ((l[0]).toNat : Int)) w := fun w => run_index_str w l .i64 0 (by omega)
        have hx1 : ∀ w, (Instr.index 9 (.string (strOf l)) (.int .i64 (((l.length - 1 : Nat)) : Int))).run Tryd.prog w = .ok (.int .u8 ((l[l.length - 1]).toNat : Int)) w := fun w => run_index_str w l .i64 (l.length - 1) (by omega)
        have H0 := hideIt (refblank_any l[0])
        have H1 := hideIt (refblank_any l[l.length - 1])
        have e0 : ((l.head?).map blankB).getD false = blankB l[0] := by rw [List.head?_eq_getElem?, List.getElem?_eq_getElem (by omega)]; rfl
        have e1 : ((l.getLast?).map blankB).getD false = blankB l[l.length - 1] := by rw [List.getLast?_eq_getElem?, List.getElem?_eq_getElem (by omega)]; rfl
        rw [e0, e1, decide_eq_false h0, Bool.false_or] at E
        clear e0 e1
        generalize blankB l[0] = b0 at *
        generalize blankB l[l.length - 1] = b1 at *
        generalize (l[0]).toNat = u0 at *
        generalize (l[l.length - 1]).toNat = u1 at *
        generalize ((l.length - 1 : Nat) : Int) = m at *
        cases b0
        · cases b1
          · have E2 : Hid (R = true) := hideIt E.out
            clear E
            go_wp2_with fail
            refine (H0.out _).mono ?_
            rintro e w2 ⟨rfl, rfl⟩
            go_wp2_with fail
            refine (H1.out _).mono ?_
            rintro e w3 ⟨rfl, rfl⟩
            go_wp2_with fail
            go_ret
            exact ⟨by rw [E2.out]; rfl, rfl⟩
          · have E2 : Hid (R = false) := hideIt E.out
            clear E
            go_wp2_with fail
            refine (H0.out _).mono ?_
            rintro e w2 ⟨rfl, rfl⟩
            go_wp2_with fail
            refine (H1.out _).mono ?_
            rintro e w3 ⟨rfl, rfl⟩
            go_wp2_with fail
            go_ret
            exact ⟨by rw [E2.out]; rfl, rfl⟩
        · have E2 : Hid (R = false) := hideIt E.out
          clear E
          go_wp2_with fail
          refine (H0.out _).mono ?_
          rintro e w2 ⟨rfl, rfl⟩
          go_wp2_with fail
          go_ret
          exact ⟨by rw [E2.out]; rfl, rfl⟩
theorem go_refvalue : goFn Tryd.prog 39 = true := by kernel_rfl
end Go.Proofs.YtolikoediafkkaaDoor
