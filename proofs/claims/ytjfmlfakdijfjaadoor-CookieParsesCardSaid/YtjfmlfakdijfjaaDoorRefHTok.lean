/- Contracts of the reference's sign, Token. -/
import Derived.Test.YtjfmlfakdijfjaaDoorHeadPlain
import Derived.Test.YtjfmlfakdijfjaaDoorStrFacts
import Derived.Deep.Cut
import Derived.Handy
namespace Go.Proofs.YtjfmlfakdijfjaaDoor
open Go.ChangeShapes Go.WideShapes Go.ChangeAt Go.RowKit
set_option linter.unusedVariables false
set_option linter.unusedSimpArgs false

def othS : List UInt8 := [33, 35, 36, 37, 38, 39, 42, 43, 45, 46, 94, 95, 96, 124, 126]
theorem tok_letter (c : UInt8) (h : 97 ≤ c.toNat ∧ c.toNat ≤ 122 ∨ 65 ≤ c.toNat ∧ c.toNat ≤ 90 ∨ 48 ≤ c.toNat ∧ c.toNat ≤ 57) : tokB c = true := by
  revert h
  refine each_byte (p := fun c => 97 ≤ c.toNat ∧ c.toNat ≤ 122 ∨ 65 ≤ c.toNat ∧ c.toNat ≤ 90 ∨ 48 ≤ c.toNat ∧ c.toNat ≤ 57 → tokB c = true) ?_ c
  decide +kernel
theorem tok_sign (c : UInt8) (h : ¬ (97 ≤ c.toNat ∧ c.toNat ≤ 122 ∨ 65 ≤ c.toNat ∧ c.toNat ≤ 90 ∨ 48 ≤ c.toNat ∧ c.toNat ≤ 57)) : tokB c = othS.contains c := by
  revert h
  refine each_byte (p := fun c => ¬ (97 ≤ c.toNat ∧ c.toNat ≤ 122 ∨ 65 ≤ c.toNat ∧ c.toNat ≤ 90 ∨ 48 ≤ c.toNat ∧ c.toNat ≤ 57) → tokB c = othS.contains c) ?_ c
  decide +kernel
theorem oth_at (k : Nat) (h : k < 15) : othS[k]? = some (othS.getD k 0) := by
  have : ∀ k : Fin 15, othS[k.val]? = some (othS.getD k.val 0) := by decide
  exact this ⟨k, h⟩
theorem oth_mem (k : Nat) (h : k < 15) : othS.contains (othS.getD k 0) = true := by
  have : ∀ k : Fin 15, othS.contains (othS.getD k.val 0) = true := by decide
  exact this ⟨k, h⟩
theorem oth_no (c : UInt8) (h : ∀ j, j < 15 → othS.getD j 0 ≠ c) : othS.contains c = false := by
  cases hc : othS.contains c
  · rfl
  · exfalso
    have hm : c ∈ othS := by simpa using hc
    obtain ⟨j, hj, e⟩ := List.mem_iff_getElem.1 hm
    have hj' : j < 15 := hj
    refine h j hj' ?_
    rw [List.getD_eq_getElem?_getD, List.getElem?_eq_getElem hj, e]; rfl
set_option maxHeartbeats 2000000 in
theorem refsign_any (c : UInt8) (w : World) :
    Calls Tryd.prog 44 #[.int .u8 (c.toNat : Int)] w fun e w' => e = .returned (.bool (tokB c)) ∧ w = w' := by
  have hcl := c.toNat_lt
  have HL := hideIt (tok_letter c)
  have HS := hideIt (tok_sign c)
  have HIT : Hid (∀ k, k < 15 → othS.getD k 0 = c → othS.contains c = true) := hideIt fun k hk e => by rw [← e]; exact oth_mem k hk
  have HNO := hideIt (oth_no c)
  obtain ⟨R, hR⟩ : ∃ R, tokB c = R := ⟨_, rfl⟩
  rw [hR] at HL HS ⊢
  clear hR
  generalize hu : c.toNat = u at *
  have HU := hideIt hu
  clear hu
  rcases (by omega : 97 ≤ u ∧ u ≤ 122 ∨ 65 ≤ u ∧ u ≤ 90 ∨ 48 ≤ u ∧ u ≤ 57 ∨ 122 < u ∨ 90 < u ∧ u < 97 ∨ 57 < u ∧ u < 65 ∨ u < 48) with ⟨h1, h2⟩ | ⟨h1, h2⟩ | ⟨h1, h2⟩ | h1 | ⟨h1, h2⟩ | ⟨h1, h2⟩ | h1
  · have E := hideIt (HL.out (.inl ⟨h1, h2⟩))
    have q1 : (97 : Int) ≤ (u : Int) := by omega
    have q2 : (u : Int) ≤ 122 := by omega
    clear h1 h2 HL HS HIT HNO hcl
    go_enter Tryd.func44, Tryd.ntmps44
    go_wp2_with fail
    go_ret
    exact ⟨by rw [E.out]; rfl, rfl⟩
  · have E := hideIt (HL.out (.inr (.inl ⟨h1, h2⟩)))
    have q1 : ¬ (97 : Int) ≤ (u : Int) := by omega
    have q2 : (65 : Int) ≤ (u : Int) := by omega
    have q3 : (u : Int) ≤ 90 := by omega
    clear h1 h2 HL HS HIT HNO hcl
    go_enter Tryd.func44, Tryd.ntmps44
    go_wp2_with fail
    go_ret
    exact ⟨by rw [E.out]; rfl, rfl⟩
  · have E := hideIt (HL.out (.inr (.inr ⟨h1, h2⟩)))
    have q1 : ¬ (97 : Int) ≤ (u : Int) := by omega
    have q2 : ¬ (65 : Int) ≤ (u : Int) := by omega
    have q3 : (48 : Int) ≤ (u : Int) := by omega
    have q4 : (u : Int) ≤ 57 := by omega
    clear h1 h2 HL HS HIT HNO hcl
    go_enter Tryd.func44, Tryd.ntmps44
    go_wp2_with fail
    go_ret
    exact ⟨by rw [E.out]; rfl, rfl⟩
  · have E := hideIt (HS.out (by omega))
    have q1 : (97 : Int) ≤ (u : Int) := by omega
    have q2 : ¬ (u : Int) ≤ 122 := by omega
    have q3 : (65 : Int) ≤ (u : Int) := by omega
    have q4 : ¬ (u : Int) ≤ 90 := by omega
    have q5 : (48 : Int) ≤ (u : Int) := by omega
    have q6 : ¬ (u : Int) ≤ 57 := by omega
    clear h1 HL HS hcl
    (try clear h2)
    go_enter Tryd.func44, Tryd.ntmps44
    go_wp2_with fail
    go_loop [3] (fun i => ∃ k : Nat, k ≤ 15 ∧ i = .int .i64 (k : Int) ∧ ∀ j, j < k → othS.getD j 0 ≠ c) (fun i => 15 - (intOf i).toNat)
    case atStart => exact ⟨0, by omega, rfl, fun j hj => by omega⟩
    case round =>
      obtain ⟨k, hk, rfl, ha⟩ := hrel
      have HA := hideIt ha
      clear ha
      by_cases hk15 : k < 15
      · have hix : ∀ w, (Instr.index 9 (.string ⟨#[33, 35, 36, 37, 38, 39, 42, 43, 45, 46, 94, 95, 96, 124, 126]⟩) (.int .i64 (k : Int))).run Tryd.prog w = .ok (.int .u8 ((othS.getD k 0).toNat : Int)) w := fun w => by
          obtain ⟨h2, h3⟩ := List.getElem?_eq_some_iff.1 (oth_at k hk15)
          have := run_index_str w othS .i64 k h2
          rw [h3] at this
          exact this
        by_cases hd : othS.getD k 0 = c
        · have E2 : Hid (R = true) := hideIt (by rw [E.out]; exact HIT.out k hk15 hd)
          have he : (othS.getD k 0).toNat = u := by rw [hd]; exact HU.out
          rw [he] at hix
          clear he hd
          go_wp2_with fail
          go_ret
          exact ⟨by rw [E2.out]; rfl, rfl⟩
        · have he : (((othS.getD k 0).toNat : Int) == (u : Int)) = false := by rw [beq_eq_false_iff_ne]; exact fun h => hd (UInt8.toNat_inj.1 (by have := HU.out; omega))
          have HD := hideIt hd
          clear hd
          generalize (othS.getD k 0).toNat = v at *
          go_wp2_with fail
          go_round
          case rel => exact ⟨k + 1, by omega, by go_num, fun j hj => by
            rcases Nat.lt_or_ge j k with h | h
            · exact HA.out j h
            · obtain rfl : j = k := by omega
              exact HD.out⟩
          case measure => simp [intOf]; omega
      · obtain rfl : k = 15 := by omega
        have E2 : Hid (R = false) := hideIt (by rw [E.out]; exact HNO.out HA.out)
        go_wp2_with fail
        go_ret
        exact ⟨by rw [E2.out]; rfl, rfl⟩
  · have E := hideIt (HS.out (by omega))
    have q1 : ¬ (97 : Int) ≤ (u : Int) := by omega
    have q3 : (65 : Int) ≤ (u : Int) := by omega
    have q4 : ¬ (u : Int) ≤ 90 := by omega
    have q5 : (48 : Int) ≤ (u : Int) := by omega
    have q6 : ¬ (u : Int) ≤ 57 := by omega
    clear h1 HL HS hcl
    (try clear h2)
    go_enter Tryd.func44, Tryd.ntmps44
    go_wp2_with fail
    go_loop [3] (fun i => ∃ k : Nat, k ≤ 15 ∧ i = .int .i64 (k : Int) ∧ ∀ j, j < k → othS.getD j 0 ≠ c) (fun i => 15 - (intOf i).toNat)
    case atStart => exact ⟨0, by omega, rfl, fun j hj => by omega⟩
    case round =>
      obtain ⟨k, hk, rfl, ha⟩ := hrel
      have HA := hideIt ha
      clear ha
      by_cases hk15 : k < 15
      · have hix : ∀ w, (Instr.index 9 (.string ⟨#[33, 35, 36, 37, 38, 39, 42, 43, 45, 46, 94, 95, 96, 124, 126]⟩) (.int .i64 (k : Int))).run Tryd.prog w = .ok (.int .u8 ((othS.getD k 0).toNat : Int)) w := fun w => by
          obtain ⟨h2, h3⟩ := List.getElem?_eq_some_iff.1 (oth_at k hk15)
          have := run_index_str w othS .i64 k h2
          rw [h3] at this
          exact this
        by_cases hd : othS.getD k 0 = c
        · have E2 : Hid (R = true) := hideIt (by rw [E.out]; exact HIT.out k hk15 hd)
          have he : (othS.getD k 0).toNat = u := by rw [hd]; exact HU.out
          rw [he] at hix
          clear he hd
          go_wp2_with fail
          go_ret
          exact ⟨by rw [E2.out]; rfl, rfl⟩
        · have he : (((othS.getD k 0).toNat : Int) == (u : Int)) = false := by rw [beq_eq_false_iff_ne]; exact fun h => hd (UInt8.toNat_inj.1 (by have := HU.out; omega))
          have HD := hideIt hd
          clear hd
          generalize (othS.getD k 0).toNat = v at *
          go_wp2_with fail
          go_round
          case rel => exact ⟨k + 1, by omega, by go_num, fun j hj => by
            rcases Nat.lt_or_ge j k with h | h
            · exact HA.out j h
            · obtain rfl : j = k := by omega
              exact HD.out⟩
          case measure => simp [intOf]; omega
      · obtain rfl : k = 15 := by omega
        have E2 : Hid (R = false) := hideIt (by rw [E.out]; exact HNO.out HA.out)
        go_wp2_with fail
        go_ret
        exact ⟨by rw [E2.out]; rfl, rfl⟩
  · have E := hideIt (HS.out (by omega))
    have q1 : ¬ (97 : Int) ≤ (u : Int) := by omega
    have q3 : ¬ (65 : Int) ≤ (u : Int) := by omega
    have q5 : (48 : Int) ≤ (u : Int) := by omega
    have q6 : ¬ (u : Int) ≤ 57 := by omega
    clear h1 HL HS hcl
    (try clear h2)
    go_enter Tryd.func44, Tryd.ntmps44
    go_wp2_with fail
    go_loop [3] (fun i => ∃ k : Nat, k ≤ 15 ∧ i = .int .i64 (k : Int) ∧ ∀ j, j < k → othS.getD j 0 ≠ c) (fun i => 15 - (intOf i).toNat)
    case atStart => exact ⟨0, by omega, rfl, fun j hj => by omega⟩
    case round =>
      obtain ⟨k, hk, rfl, ha⟩ := hrel
      have HA := hideIt ha
      clear ha
      by_cases hk15 : k < 15
      · have hix : ∀ w, (Instr.index 9 (.string ⟨#[33, 35, 36, 37, 38, 39, 42, 43, 45, 46, 94, 95, 96, 124, 126]⟩) (.int .i64 (k : Int))).run Tryd.prog w = .ok (.int .u8 ((othS.getD k 0).toNat : Int)) w := fun w => by
          obtain ⟨h2, h3⟩ := List.getElem?_eq_some_iff.1 (oth_at k hk15)
          have := run_index_str w othS .i64 k h2
          rw [h3] at this
          exact this
        by_cases hd : othS.getD k 0 = c
        · have E2 : Hid (R = true) := hideIt (by rw [E.out]; exact HIT.out k hk15 hd)
          have he : (othS.getD k 0).toNat = u := by rw [hd]; exact HU.out
          rw [he] at hix
          clear he hd
          go_wp2_with fail
          go_ret
          exact ⟨by rw [E2.out]; rfl, rfl⟩
        · have he : (((othS.getD k 0).toNat : Int) == (u : Int)) = false := by rw [beq_eq_false_iff_ne]; exact fun h => hd (UInt8.toNat_inj.1 (by have := HU.out; omega))
          have HD := hideIt hd
          clear hd
          generalize (othS.getD k 0).toNat = v at *
          go_wp2_with fail
          go_round
          case rel => exact ⟨k + 1, by omega, by go_num, fun j hj => by
            rcases Nat.lt_or_ge j k with h | h
            · exact HA.out j h
            · obtain rfl : j = k := by omega
              exact HD.out⟩
          case measure => simp [intOf]; omega
      · obtain rfl : k = 15 := by omega
        have E2 : Hid (R = false) := hideIt (by rw [E.out]; exact HNO.out HA.out)
        go_wp2_with fail
        go_ret
        exact ⟨by rw [E2.out]; rfl, rfl⟩
  · have E := hideIt (HS.out (by omega))
    have q1 : ¬ (97 : Int) ≤ (u : Int) := by omega
    have q3 : ¬ (65 : Int) ≤ (u : Int) := by omega
    have q5 : ¬ (48 : Int) ≤ (u : Int) := by omega
    clear h1 HL HS hcl
    (try clear h2)
    go_enter Tryd.func44, Tryd.ntmps44
    go_wp2_with fail
    go_loop [3] (fun i => ∃ k : Nat, k ≤ 15 ∧ i = .int .i64 (k : Int) ∧ ∀ j, j < k → othS.getD j 0 ≠ c) (fun i => 15 - (intOf i).toNat)
    case atStart => exact ⟨0, by omega, rfl, fun j hj => by omega⟩
    case round =>
      obtain ⟨k, hk, rfl, ha⟩ := hrel
      have HA := hideIt ha
      clear ha
      by_cases hk15 : k < 15
      · have hix : ∀ w, (Instr.index 9 (.string ⟨#[33, 35, 36, 37, 38, 39, 42, 43, 45, 46, 94, 95, 96, 124, 126]⟩) (.int .i64 (k : Int))).run Tryd.prog w = .ok (.int .u8 ((othS.getD k 0).toNat : Int)) w := fun w => by
          obtain ⟨h2, h3⟩ := List.getElem?_eq_some_iff.1 (oth_at k hk15)
          have := run_index_str w othS .i64 k h2
          rw [h3] at this
          exact this
        by_cases hd : othS.getD k 0 = c
        · have E2 : Hid (R = true) := hideIt (by rw [E.out]; exact HIT.out k hk15 hd)
          have he : (othS.getD k 0).toNat = u := by rw [hd]; exact HU.out
          rw [he] at hix
          clear he hd
          go_wp2_with fail
          go_ret
          exact ⟨by rw [E2.out]; rfl, rfl⟩
        · have he : (((othS.getD k 0).toNat : Int) == (u : Int)) = false := by rw [beq_eq_false_iff_ne]; exact fun h => hd (UInt8.toNat_inj.1 (by have := HU.out; omega))
          have HD := hideIt hd
          clear hd
          generalize (othS.getD k 0).toNat = v at *
          go_wp2_with fail
          go_round
          case rel => exact ⟨k + 1, by omega, by go_num, fun j hj => by
            rcases Nat.lt_or_ge j k with h | h
            · exact HA.out j h
            · obtain rfl : j = k := by omega
              exact HD.out⟩
          case measure => simp [intOf]; omega
      · obtain rfl : k = 15 := by omega
        have E2 : Hid (R = false) := hideIt (by rw [E.out]; exact HNO.out HA.out)
        go_wp2_with fail
        go_ret
        exact ⟨by rw [E2.out]; rfl, rfl⟩
theorem go_refsign : goFn Tryd.prog 44 = true := by kernel_rfl
set_option maxHeartbeats 1000000 in
theorem reftoken_any (l : List UInt8) (w : World) (hl : l.length ≤ 1000000) :
    Calls Tryd.prog 30 #[.string (strOf l)] w fun e w' => e = .returned (.bool (tokenL l)) ∧ w = w' := by
  have hsz := strOf_size l
  obtain ⟨R, hR⟩ : ∃ R, tokenL l = R := ⟨_, rfl⟩
  rw [hR]
  have HR := hideIt hR
  clear hR
  go_enter Tryd.func30, Tryd.ntmps30
  go_wp2
  go_loop [3] (fun i => ∃ k : Nat, k ≤ l.length ∧ i = .int .i64 (k : Int) ∧ (l.take k).all tokB = true) (fun i => l.length - (intOf i).toNat)
  case atStart => exact ⟨0, by omega, rfl, rfl⟩
  case round =>
    obtain ⟨k, hk, rfl, ha⟩ := hrel
    have HA := hideIt ha
    clear ha
    by_cases hlt : k < l.length
    · have hlt' : (k : Int) < (l.length : Int) := by omega
      have hix : ∀ w, (Instr.index 9 (.string (strOf l)) (.int .i64 (k : Int))).run Tryd.prog w = .ok (.int .u8 ((l[k]).toNat : Int)) w := fun w => run_index_str w l .i64 k hlt
      have HC := hideIt (refsign_any l[k])
      have hwk : IntKind.i64.wrap ((k : Int) + 1) = (k : Int) + 1 := IntWalk.i64_in _ (by omega)
      cases ht : tokB l[k]
      · rw [ht] at HC
        have E : Hid (R = false) := hideIt (by rw [← HR.out, tokenL, all_not tokB l k hlt ht]; rfl)
        clear ht HA
        generalize (l[k]).toNat = u at *
        go_wp2_with fail
        refine (HC.out _).mono ?_
        rintro e w2 ⟨rfl, rfl⟩
        go_wp2_with fail
        go_ret
        exact ⟨by rw [E.out]; rfl, rfl⟩
      · rw [ht] at HC
        have N : Hid ((l.take (k + 1)).all tokB = true) := hideIt (all_step tokB l k (k + 1) (by omega) hlt HA.out fun j hj h1 h2 => by
          obtain rfl : j = k := by omega
          exact ht)
        clear ht
        generalize (l[k]).toNat = u at *
        go_wp2_with fail
        refine (HC.out _).mono ?_
        rintro e w2 ⟨rfl, rfl⟩
        go_wp2_with fail
        go_round
        case rel => exact ⟨k + 1, by omega, by go_num, N.out⟩
        case measure => simp [intOf]; omega
    · obtain rfl : k = l.length := by omega
      have hlt' : ¬ (l.length : Int) < (l.length : Int) := by omega
      have E : Hid (R = decide (0 < l.length)) := hideIt (by
        have h1 := HA.out
        rw [List.take_length] at h1
        rw [← HR.out, tokenL, h1, Bool.true_and]
        refine decide_eq_decide.2 ⟨fun h => ?_, fun h e => ?_⟩
        · have := List.length_pos_iff.2 h
          omega
        · rw [e] at h; simp at h)
      go_wp2_with fail
      go_ret
      exact ⟨by rw [E.out]; rfl, rfl⟩
theorem go_reftoken : goFn Tryd.prog 30 = true := by kernel_rfl
end Go.Proofs.YtjfmlfakdijfjaaDoor
