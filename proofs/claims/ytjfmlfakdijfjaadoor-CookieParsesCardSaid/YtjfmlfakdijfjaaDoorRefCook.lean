/- Contracts of the reference's Octets, begins, Prefix. -/
import Derived.Test.YtjfmlfakdijfjaaDoorCookiePlain
import Derived.Test.YtjfmlfakdijfjaaDoorRefHSame
import Derived.Deep.Cut
import Derived.Handy
namespace Go.Proofs.YtjfmlfakdijfjaaDoor
open Go.ChangeShapes Go.WideShapes Go.ChangeAt Go.RowKit
set_option linter.unusedVariables false
set_option linter.unusedSimpArgs false

theorem oct_ways2 (c : UInt8) : (octB c = true ∧ ¬ (c.toNat : Int) < 33 ∧ ¬ 126 < (c.toNat : Int) ∧ ((c.toNat : Int) == 34) = false ∧ ((c.toNat : Int) == 44) = false ∧ ((c.toNat : Int) == 59) = false ∧ ((c.toNat : Int) == 92) = false) ∨ (octB c = false ∧ (c.toNat : Int) < 33) ∨ (octB c = false ∧ ¬ (c.toNat : Int) < 33 ∧ 126 < (c.toNat : Int)) ∨
    (octB c = false ∧ (c.toNat : Int) = 34) ∨ (octB c = false ∧ (c.toNat : Int) = 44) ∨ (octB c = false ∧ (c.toNat : Int) = 59) ∨ (octB c = false ∧ (c.toNat : Int) = 92) := by
  simp only [beq_eq_false_iff_ne]
  cases h : octB c
  · have hn : ¬ (33 ≤ c.toNat ∧ c.toNat ≤ 126 ∧ c.toNat ≠ 34 ∧ c.toNat ≠ 44 ∧ c.toNat ≠ 59 ∧ c.toNat ≠ 92) := fun hh => by rw [(octB_iff c).2 hh] at h; cases h
    simp only [true_and, Bool.false_eq_true, false_and, false_or]
    omega
  · have := (octB_iff c).1 h
    left
    refine ⟨rfl, ?_⟩
    omega
set_option maxRecDepth 8000 in
set_option maxHeartbeats 2000000 in
theorem roct_any (l : List UInt8) (w : World) (hl : l.length ≤ 1000000) :
    Calls Tryd.prog 31 #[.string (strOf l)] w fun e w' => e = .returned (.bool (octL l)) ∧ w' = w := by
  have hsz := strOf_size l
  obtain ⟨R, hR⟩ : ∃ R, octL l = R := ⟨_, rfl⟩
  rw [hR]
  have HR := hideIt hR
  clear hR
  go_enter Tryd.func31, Tryd.ntmps31
  go_wp2
  go_loopw [3] (fun i wr => ∃ k : Nat, k ≤ l.length ∧ i = .int .i64 (k : Int) ∧ (l.take k).all octB = true ∧ wr = w) (fun i wr => l.length - (intOf i).toNat)
  case atStart => exact ⟨0, Nat.zero_le _, rfl, rfl, rfl⟩
  case round =>
    obtain ⟨k, hk, rfl, ha, rfl⟩ := hrel
    have HA := hideIt ha
    clear ha
    have hwk : IntKind.i64.wrap ((k : Int) + 1) = (k : Int) + 1 := IntWalk.i64_in _ (by omega)
    by_cases hkl : k < l.length
    · have hki : (k : Int) < (l.length : Int) := by omega
      have hix : ∀ w, (Instr.index 9 (.string (strOf l)) (.int .i64 (k : Int))).run Tryd.prog w = .ok (.int .u8 ((l[k]).toNat : Int)) w := fun w => run_index_str w l .i64 k hkl
      have hway := oct_ways2 l[k]
      have HT : Hid (octB l[k] = true → (l.take (k + 1)).all octB = true) := hideIt fun ht => all_step octB l k (k + 1) (by omega) hkl HA.out fun j hj h1 h2 => by
        obtain rfl : j = k := by omega
        exact ht
      have HF : Hid (octB l[k] = false → R = false) := hideIt fun ht => by rw [← HR.out, octL, all_not octB l k hkl ht]
      generalize octB l[k] = bo at *
      generalize ((l[k]).toNat : Int) = u at *
      rcases hway with ⟨rfl, q1, q2, q3, q4, q5, q6⟩ | ⟨rfl, q1⟩ | ⟨rfl, q1, q2⟩ | ⟨rfl, q1⟩ | ⟨rfl, q1⟩ | ⟨rfl, q1⟩ | ⟨rfl, q1⟩
      · have N := hideIt (HT.out rfl)
        clear HT HF
        go_wp2_with fail
        go_roundw
        case rel => exact ⟨k + 1, hkl, by go_num, N.out, by trivial⟩
        case measure => simp [intOf]; omega
      · have E := hideIt (HF.out rfl)
        clear HT HF
        go_wp2_with fail
        go_ret
        exact ⟨by rw [E.out]; rfl, rfl⟩
      · have E := hideIt (HF.out rfl)
        clear HT HF
        go_wp2_with fail
        go_ret
        exact ⟨by rw [E.out]; rfl, rfl⟩
      all_goals
        have E := hideIt (HF.out rfl)
        clear HT HF
        subst q1
        go_wp2_with fail
        go_ret
        exact ⟨by rw [E.out]; rfl, rfl⟩
    · obtain rfl : k = l.length := by omega
      have E : Hid (R = true) := hideIt (by
        have h1 := HA.out
        rw [List.take_length] at h1
        rw [← HR.out, octL, h1])
      go_wp2_with fail
      go_ret
      exact ⟨by rw [E.out]; rfl, rfl⟩
theorem go_roct : goFn Tryd.prog 31 = true := by kernel_rfl
set_option maxHeartbeats 2000000 in
theorem rbegins_any (l f : List UInt8) (w : World) (hl : l.length ≤ 140737488355328) (hf : f.length ≤ 1000) :
    Calls Tryd.prog 47 #[.string (strOf l), .string (strOf f)] w fun e w' => e = .returned (.bool (beginsL l f)) ∧ Below w.heap.size w w' := by
  have z1 := strOf_size l
  have z2 := strOf_size f
  obtain ⟨R, hR⟩ : ∃ R, beginsL l f = R := ⟨_, rfl⟩
  rw [hR]
  by_cases h : f.length ≤ l.length
  · have E : Hid (R = sameL (l.take f.length) f) := hideIt (by rw [← hR]; unfold beginsL; rw [decide_eq_true h]; rfl)
    have hs : ∀ w', (Instr.slice 9 (.string (strOf l)) none (some (.int .i64 (f.length : Int))) none).run Tryd.prog w' = .ok (.string (strOf (l.take f.length))) w' := fun w' => by
      have := run_slice_str w' l none (some (.int .i64 (f.length : Int))) .i64 .i64 0 f.length (.inl ⟨rfl, rfl⟩) (.inr rfl) (by omega) h
      simpa using this
    have HS := hideIt (fun w => refsame8_any (l.take f.length) f w (fun _ => by simp; omega) (by simp; omega) (by omega))
    have hi : (f.length : Int) ≤ (l.length : Int) := by omega
    clear hR h
    generalize sameL (l.take f.length) f = Q at *
    generalize l.take f.length = lt at *
    go_enter Tryd.func47, Tryd.ntmps47
    go_wp2_with fail
    refine (HS.out _).mono ?_
    rintro e w1 ⟨rfl, hb⟩
    have HB := hideIt hb
    clear hb HS
    go_wp2_with fail
    go_ret
    exact ⟨by rw [E.out]; rfl, HB.out⟩
  · have E : Hid (R = false) := hideIt (by rw [← hR]; unfold beginsL; rw [decide_eq_false h]; rfl)
    have hi : ¬ (f.length : Int) ≤ (l.length : Int) := by omega
    clear hR h
    go_enter Tryd.func47, Tryd.ntmps47
    go_wp2_with fail
    go_ret
    exact ⟨by rw [E.out]; rfl, Below.refl _ _⟩
set_option maxHeartbeats 2000000 in
theorem rprefix_any (l pa : List UInt8) (se dm : Bool) (w : World) (hl : l.length ≤ 140737488355328) :
    Calls Tryd.prog 34 #[.string (strOf l), .bool se, .string (strOf pa), .bool dm] w fun e w' => e = .returned (.bool (prefL l se pa dm)) ∧ Below w.heap.size w w' := by
  have H1 := hideIt (fun w => rbegins_any l hostF w hl (by decide))
  have H2 := hideIt (fun w => rbegins_any l secF w hl (by decide))
  have HP : ((strOf pa).toList == ([47] : List UInt8)) = decide (pa = [47]) := by
    rw [strOf_toList]
    by_cases h : pa = [47] <;> simp [h]
  obtain ⟨R, hR⟩ : ∃ R, prefL l se pa dm = R := ⟨_, rfl⟩
  rw [hR]
  unfold prefL at hR
  have E := hideIt hR
  clear hR hl
  generalize beginsL l hostF = b1 at *
  generalize beginsL l secF = b2 at *
  generalize decide (pa = [47]) = b3 at *
  cases b1
  · cases b2
    · have E2 : Hid (R = true) := hideIt E.out.symm
      go_enter Tryd.func34, Tryd.ntmps34
      go_wp2_with fail
      refine (H1.out _).mono ?_
      rintro e w1 ⟨rfl, hb⟩
      have B1 := hideIt hb
      clear hb H1
      go_wp2_with fail
      refine (H2.out _).mono ?_
      rintro e w2 ⟨rfl, hb⟩
      have B2 := hideIt (below_then B1.out hb)
      clear hb H2
      go_wp2_with fail
      go_ret
      exact ⟨by rw [E2.out]; rfl, B2.out⟩
    · have E2 : Hid (R = se) := hideIt E.out.symm
      go_enter Tryd.func34, Tryd.ntmps34
      go_wp2_with fail
      refine (H1.out _).mono ?_
      rintro e w1 ⟨rfl, hb⟩
      have B1 := hideIt hb
      clear hb H1
      go_wp2_with fail
      refine (H2.out _).mono ?_
      rintro e w2 ⟨rfl, hb⟩
      have B2 := hideIt (below_then B1.out hb)
      clear hb H2
      go_wp2_with fail
      go_ret
      exact ⟨by rw [E2.out]; rfl, B2.out⟩
  · have E2 : Hid (R = (se && (b3 && !dm))) := hideIt E.out.symm
    clear E H2
    cases se <;> cases b3 <;> cases dm
    all_goals
      go_enter Tryd.func34, Tryd.ntmps34
      go_wp2_with fail
      refine (H1.out _).mono ?_
      rintro e w1 ⟨rfl, hb⟩
      have B1 := hideIt hb
      clear hb H1
      go_wp2_with fail
      go_ret
      exact ⟨by rw [E2.out]; rfl, B1.out⟩
theorem go_rprefix : goFn Tryd.prog 34 = true := by kernel_rfl
end Go.Proofs.YtjfmlfakdijfjaaDoor
