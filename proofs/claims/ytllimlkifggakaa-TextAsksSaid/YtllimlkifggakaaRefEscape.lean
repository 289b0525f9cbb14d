/- The contract of the reference's Escape. -/
import Derived.Test.YtllimlkifggakaaRefName
namespace Go.Proofs.Ytllimlkifggakaa
open Go.ChangeShapes Go.WideShapes Go.ChangeAt Go.RowKit
set_option linter.unusedVariables false
set_option linter.unusedSimpArgs false

theorem good_first (x : List UInt8) (hx : 1 ≤ x.length) (hg : goodL x = true) (h : at4 x 0 < 128) : wd x = 1 ∧ ∃ b : UInt8, x.take 1 = [b] ∧ b.toNat = at4 x 0 ∧ escC (x.take (wd x)) = escB [b] := by
  obtain ⟨a, r, rfl⟩ : ∃ a r, x = a :: r := by cases x with | nil => simp at hx | cons a r => exact ⟨a, r, rfl⟩
  have hw : wd (a :: r) = 1 := wd_ascii a r h
  refine ⟨hw, a, rfl, rfl, ?_⟩
  rw [hw]
  show escC [a] = escB [a]
  unfold escC
  rw [if_pos (ascii_good a [] h)]
theorem escB_sign (b c : UInt8) (h : b.toNat = c.toNat) : escB [b] = escB [c] := by rw [UInt8.toNat_inj.1 h]
theorem escB_other (b : UInt8) (h1 : b.toNat ≠ 38) (h2 : b.toNat ≠ 60) (h3 : b.toNat ≠ 62) (h4 : b.toNat ≠ 34) (h5 : b.toNat ≠ 39) : escB [b] = [b] := by
  have ne : ∀ c : UInt8, b.toNat ≠ c.toNat → [b] ≠ [c] := fun c h e => h (by rw [List.head_eq_of_cons_eq e])
  unfold escB
  rw [if_neg (ne 38 h1), if_neg (ne 60 h2), if_neg (ne 62 h3), if_neg (ne 34 h4), if_neg (ne 39 h5)]
theorem escC_many (x : List UInt8) (hx : 1 ≤ x.length) (hg : goodL x = true) (h : ¬ at4 x 0 < 128) : 2 ≤ wd x ∧ escC (x.take (wd x)) = x.take (wd x) := by
  have h2 : 2 ≤ wd x := by
    have := (good_iff x).1 hg
    have := wd_pos x
    omega
  refine ⟨h2, ?_⟩
  have hw := wd_le x hx
  have hlen : (x.take (wd x)).length = wd x := by rw [List.length_take]; omega
  have hne : ∀ c : UInt8, x.take (wd x) ≠ [c] := fun c h => by rw [h] at hlen; simp at hlen; omega
  unfold escC escB
  rw [if_pos (by rw [good_chunk x hx, hg]), if_neg (hne _), if_neg (hne _), if_neg (hne _), if_neg (hne _), if_neg (hne _)]
set_option maxHeartbeats 4000000 in
theorem refescape_any (l : List UInt8) (w : World) (hl : l.length ≤ 100000) :
    Calls Try.prog 21 #[.string (strOf l)] w fun e w' => e = .returned (.string (strOf (escT l))) ∧ Below w.heap.size w w' := by
  go_enter Try.func21, Try.ntmps21
  go_wp2
  go_loopw [0, 3] (fun s o wr => ∃ (x acc : List UInt8), s = .string (strOf x) ∧ o = .string (strOf acc) ∧ escT l = acc ++ escT x ∧ acc.length + 6 * x.length ≤ 6 * l.length ∧ Below w.heap.size w wr) (fun s _ _ => strN s)
  case atStart => exact ⟨l, [], rfl, rfl, rfl, by simp, Below.refl _ _⟩
  case round =>
    obtain ⟨x, acc, rfl, rfl, he, hlen, hb⟩ := hrel
    have HE := hideIt he
    have HB := hideIt hb
    clear he hb
    by_cases h0 : x.length = 0
    · have hem := strOf_no x h0
      have hx0 : x = [] := List.eq_nil_of_length_eq_zero h0
      have R : Hid (escT l = acc) := hideIt (by rw [HE.out, hx0, escT_nil, List.append_nil])
      clear hx0 h0
      generalize strOf x = S at *
      go_wp2_with fail
      go_ret
      exact ⟨by rw [R.out]; rfl, HB.out⟩
    have h1 : 1 ≤ x.length := by omega
    have hem := strOf_ne x h1
    have H1 := hideIt (refone_any x wr (by omega))
    have hx0 : ∀ w, (Instr.index 9 (.string (strOf x)) (.int .i64 0)).run Try.prog w = .ok (.int .u8 (at4 x 0 : Int)) w := fun w => index_at4 x 0 (by omega) w
    have z0 : (strOf acc).size ≤ 600000 := by rw [strOf_size]; omega
    have hi1 : ∀ w, (Instr.slice 9 (.string (strOf x)) none (some (.int .i64 1)) none).run Try.prog w = .ok (.string (strOf (x.take 1))) w := fun w => run_strhi x 1 h1 w
    have lo1 : ∀ w, (Instr.slice 9 (.string (strOf x)) (some (.int .i64 1)) none none).run Try.prog w = .ok (.string (strOf (x.drop 1))) w := fun w => run_strlo x 1 h1 w
    have HX := hideIt (escT_cons x h1)
    have zt : (strOf (x.take 1)).size ≤ 1 := by rw [strOf_size, List.length_take]; omega
    have M1 : Hid (strN (.string (strOf (x.drop 1))) < strN (.string (strOf x))) := hideIt (by rw [strN_is, strN_is, List.length_drop]; omega)
    have L1 : Hid ((x.drop 1).length = x.length - 1) := hideIt (List.length_drop ..)
    generalize hy : x.drop 1 = y at *
    have HY := hideIt hy
    clear hy
    have cat : Hid (∀ r : List UInt8, strOf acc ++ strOf r = strOf (acc ++ r)) := hideIt fun r => strOf_append acc r
    cases hg : goodL x
    · rw [(one_bad hg).2] at H1
      have hw1 : wd x = 1 := by rw [wd, (bad_is hg).1]
      have h128 := (bad_is hg).2
      have R : Hid (escT l = (acc ++ [63]) ++ escT y) := hideIt (by
        have e : escC (x.take (wd x)) = [63] := by unfold escC; rw [good_chunk x h1, hg]; rfl
        rw [HE.out, HX.out, e, hw1, HY.out]; simp)
      have HL : Hid ((acc ++ [63]).length + 6 * y.length ≤ 6 * l.length) := hideIt (by rw [L1.out]; simp; omega)
      have MM := M1
      generalize oneR x = r at *
      generalize hc0 : at4 x 0 = c0 at *
      have b38 : ((c0 : Int) == 38) = false := by simp; omega
      have b60 : ((c0 : Int) == 60) = false := by simp; omega
      have b62 : ((c0 : Int) == 62) = false := by simp; omega
      have b34 : ((c0 : Int) == 34) = false := by simp; omega
      have b39 : ((c0 : Int) == 39) = false := by simp; omega
      have hi0 : ∀ w, (Instr.slice 9 (.string (strOf x)) none (some (.int .i64 (max 0 1))) none).run Try.prog w = .ok (.string (strOf (x.take 1))) w := fun w => by rw [show (max 0 1 : Int) = 1 from rfl]; exact hi1 w
      have lo0 : ∀ w, (Instr.slice 9 (.string (strOf x)) (some (.int .i64 (max 0 1))) none none).run Try.prog w = .ok (.string (strOf y)) w := fun w => by rw [show (max 0 1 : Int) = 1 from rfl]; exact lo1 w
      clear hg hw1 h128 hc0
      go_wp2_with fail
      refine H1.out.mono ?_
      rintro e w2 ⟨rfl, b2⟩
      have B2 := hideIt (below_then HB.out b2)
      clear b2
      go_wp2_with fail
      go_roundw
      case rel => exact ⟨y, acc ++ [63], rfl, by rw [← cat.out] <;> rfl, R.out, HL.out, B2.out⟩
      case measure => exact MM.out
    rw [oneK_good h1 hg] at H1
    by_cases h128 : at4 x 0 < 128
    · obtain ⟨hw1, b, hb1, hb2, hb3⟩ := good_first x h1 hg h128
      rw [hw1] at H1 HX hb3
      have H1' : Hid (Calls Try.prog 35 #[.string (strOf x)] wr fun e w' => e = .returned (.tuple #[.int .i64 (oneR x : Int), .int .i64 1]) ∧ Below wr.heap.size wr w') := H1
      clear H1
      have H1 := H1'
      clear H1'
      have R0 : Hid (escT l = (acc ++ escB [b]) ++ escT y) := hideIt (by rw [HE.out, HX.out, hb3, HY.out]; simp)
      have HL0 : Hid (∀ n, n ≤ 5 → (acc.length + n) + 6 * y.length ≤ 6 * l.length) := hideIt fun n hn => by rw [L1.out]; omega
      have MM := M1
      rw [hb1] at zt hi1
      generalize oneR x = r at *
      clear hg hw1 hb3
      rw [← hb2] at h128 hx0
      clear hb2 hb1
      by_cases s38 : b.toNat = 38
      · have R : Hid (escT l = (acc ++ [38, 97, 109, 112, 59]) ++ escT y) := hideIt (by rw [R0.out, escB_sign b 38 s38]; rfl)
        have HL : Hid ((acc ++ [38, 97, 109, 112, 59]).length + 6 * y.length ≤ 6 * l.length) := hideIt (by rw [List.length_append]; exact HL0.out _ (by decide))
        have b38 : ((b.toNat : Int) == 38) = true := by rw [s38]; rfl
        clear R0 HL0 s38
        generalize b.toNat = c0 at *
        go_wp2_with fail
        refine H1.out.mono ?_
        rintro e w2 ⟨rfl, b2⟩
        have B2 := hideIt (below_then HB.out b2)
        clear b2
        go_wp2_with fail
        go_roundw
        case rel => exact ⟨y, acc ++ [38, 97, 109, 112, 59], rfl, by rw [← cat.out] <;> rfl, R.out, HL.out, B2.out⟩
        case measure => exact MM.out
      by_cases s60 : b.toNat = 60
      · have R : Hid (escT l = (acc ++ [38, 108, 116, 59]) ++ escT y) := hideIt (by rw [R0.out, escB_sign b 60 s60]; rfl)
        have HL : Hid ((acc ++ [38, 108, 116, 59]).length + 6 * y.length ≤ 6 * l.length) := hideIt (by rw [List.length_append]; exact HL0.out _ (by decide))
        have b38 : ((b.toNat : Int) == 38) = false := by simp; omega
        have b60 : ((b.toNat : Int) == 60) = true := by rw [s60]; rfl
        clear R0 HL0 s60 s38
        generalize b.toNat = c0 at *
        go_wp2_with fail
        refine H1.out.mono ?_
        rintro e w2 ⟨rfl, b2⟩
        have B2 := hideIt (below_then HB.out b2)
        clear b2
        go_wp2_with fail
        go_roundw
        case rel => exact ⟨y, acc ++ [38, 108, 116, 59], rfl, by rw [← cat.out] <;> rfl, R.out, HL.out, B2.out⟩
        case measure => exact MM.out
      by_cases s62 : b.toNat = 62
      · have R : Hid (escT l = (acc ++ [38, 103, 116, 59]) ++ escT y) := hideIt (by rw [R0.out, escB_sign b 62 s62]; rfl)
        have HL : Hid ((acc ++ [38, 103, 116, 59]).length + 6 * y.length ≤ 6 * l.length) := hideIt (by rw [List.length_append]; exact HL0.out _ (by decide))
        have b38 : ((b.toNat : Int) == 38) = false := by simp; omega
        have b60 : ((b.toNat : Int) == 60) = false := by simp; omega
        have b62 : ((b.toNat : Int) == 62) = true := by rw [s62]; rfl
        clear R0 HL0 s62 s38 s60
        generalize b.toNat = c0 at *
        go_wp2_with fail
        refine H1.out.mono ?_
        rintro e w2 ⟨rfl, b2⟩
        have B2 := hideIt (below_then HB.out b2)
        clear b2
        go_wp2_with fail
        go_roundw
        case rel => exact ⟨y, acc ++ [38, 103, 116, 59], rfl, by rw [← cat.out] <;> rfl, R.out, HL.out, B2.out⟩
        case measure => exact MM.out
      by_cases s34 : b.toNat = 34
      · have R : Hid (escT l = (acc ++ [38, 35, 51, 52, 59]) ++ escT y) := hideIt (by rw [R0.out, escB_sign b 34 s34]; rfl)
        have HL : Hid ((acc ++ [38, 35, 51, 52, 59]).length + 6 * y.length ≤ 6 * l.length) := hideIt (by rw [List.length_append]; exact HL0.out _ (by decide))
        have b38 : ((b.toNat : Int) == 38) = false := by simp; omega
        have b60 : ((b.toNat : Int) == 60) = false := by simp; omega
        have b62 : ((b.toNat : Int) == 62) = false := by simp; omega
        have b34 : ((b.toNat : Int) == 34) = true := by rw [s34]; rfl
        clear R0 HL0 s34 s38 s60 s62
        generalize b.toNat = c0 at *
        go_wp2_with fail
        refine H1.out.mono ?_
        rintro e w2 ⟨rfl, b2⟩
        have B2 := hideIt (below_then HB.out b2)
        clear b2
        go_wp2_with fail
        go_roundw
        case rel => exact ⟨y, acc ++ [38, 35, 51, 52, 59], rfl, by rw [← cat.out] <;> rfl, R.out, HL.out, B2.out⟩
        case measure => exact MM.out
      by_cases s39 : b.toNat = 39
      · have R : Hid (escT l = (acc ++ [38, 35, 51, 57, 59]) ++ escT y) := hideIt (by rw [R0.out, escB_sign b 39 s39]; rfl)
        have HL : Hid ((acc ++ [38, 35, 51, 57, 59]).length + 6 * y.length ≤ 6 * l.length) := hideIt (by rw [List.length_append]; exact HL0.out _ (by decide))
        have b38 : ((b.toNat : Int) == 38) = false := by simp; omega
        have b60 : ((b.toNat : Int) == 60) = false := by simp; omega
        have b62 : ((b.toNat : Int) == 62) = false := by simp; omega
        have b34 : ((b.toNat : Int) == 34) = false := by simp; omega
        have b39 : ((b.toNat : Int) == 39) = true := by rw [s39]; rfl
        clear R0 HL0 s39 s38 s60 s62 s34
        generalize b.toNat = c0 at *
        go_wp2_with fail
        refine H1.out.mono ?_
        rintro e w2 ⟨rfl, b2⟩
        have B2 := hideIt (below_then HB.out b2)
        clear b2
        go_wp2_with fail
        go_roundw
        case rel => exact ⟨y, acc ++ [38, 35, 51, 57, 59], rfl, by rw [← cat.out] <;> rfl, R.out, HL.out, B2.out⟩
        case measure => exact MM.out
      have R : Hid (escT l = (acc ++ [b]) ++ escT y) := hideIt (by rw [R0.out, escB_other b s38 s60 s62 s34 s39])
      have HL : Hid ((acc ++ [b]).length + 6 * y.length ≤ 6 * l.length) := hideIt (by rw [List.length_append]; exact HL0.out _ (by simp))
      have b38 : ((b.toNat : Int) == 38) = false := by simp; omega
      have b60 : ((b.toNat : Int) == 60) = false := by simp; omega
      have b62 : ((b.toNat : Int) == 62) = false := by simp; omega
      have b34 : ((b.toNat : Int) == 34) = false := by simp; omega
      have b39 : ((b.toNat : Int) == 39) = false := by simp; omega
      clear R0 HL0 s38 s60 s62 s34 s39
      generalize b.toNat = c0 at *
      go_wp2_with fail
      refine H1.out.mono ?_
      rintro e w2 ⟨rfl, b2⟩
      have B2 := hideIt (below_then HB.out b2)
      clear b2
      go_wp2_with fail
      go_roundw
      case rel => exact ⟨y, acc ++ [b], rfl, by rw [← cat.out] <;> rfl, R.out, HL.out, B2.out⟩
      case measure => exact MM.out
    · obtain ⟨h2, he2⟩ := escC_many x h1 hg h128
      have hwl := wd_le x h1
      have hik := run_strhi x (wd x) hwl
      have lok := run_strlo x (wd x) hwl
      have zk : (strOf (x.take (wd x))).size ≤ 4 := by rw [strOf_size, List.length_take]; have := wd_four x; omega
      have R : Hid (escT l = (acc ++ x.take (wd x)) ++ escT (x.drop (wd x))) := hideIt (by rw [HE.out, HX.out, he2]; simp)
      have HL : Hid ((acc ++ x.take (wd x)).length + 6 * (x.drop (wd x)).length ≤ 6 * l.length) := hideIt (by rw [List.length_append, List.length_take, List.length_drop]; omega)
      have MM : Hid (strN (.string (strOf (x.drop (wd x)))) < strN (.string (strOf x))) := hideIt (by rw [strN_is, strN_is, List.length_drop]; omega)
      have hgt : (1 : Int) < (wd x : Int) := by omega
      have hnl : ¬ (wd x : Int) < 1 := by omega
      have hnz : ((wd x : Int) == 0) = false := by simp; omega
      have hmx : max (wd x : Int) 1 = (wd x : Int) := by omega
      have hik' : ∀ w, (Instr.slice 9 (.string (strOf x)) none (some (.int .i64 (max (wd x : Int) 1))) none).run Try.prog w = .ok (.string (strOf (x.take (wd x)))) w := fun w => by rw [hmx]; exact hik w
      have lok' : ∀ w, (Instr.slice 9 (.string (strOf x)) (some (.int .i64 (max (wd x : Int) 1))) none none).run Try.prog w = .ok (.string (strOf (x.drop (wd x)))) w := fun w => by rw [hmx]; exact lok w
      clear hmx
      generalize oneR x = r at *
      generalize hc0 : at4 x 0 = c0 at *
      have b38 : ((c0 : Int) == 38) = false := by simp; omega
      have b60 : ((c0 : Int) == 60) = false := by simp; omega
      have b62 : ((c0 : Int) == 62) = false := by simp; omega
      have b34 : ((c0 : Int) == 34) = false := by simp; omega
      have b39 : ((c0 : Int) == 39) = false := by simp; omega
      clear hg he2 h128 hc0
      generalize wd x = k at *
      go_wp2_with fail
      refine H1.out.mono ?_
      rintro e w2 ⟨rfl, b2⟩
      have B2 := hideIt (below_then HB.out b2)
      clear b2
      go_wp2_with fail
      go_roundw
      case rel => exact ⟨x.drop k, acc ++ x.take k, rfl, by rw [← cat.out] <;> rfl, R.out, HL.out, B2.out⟩
      case measure => exact MM.out
theorem go_refescape : goFn Try.prog 21 = true := by kernel_rfl
end Go.Proofs.Ytllimlkifggakaa
