/- The contracts of the reference's Runes, plain, Name, Pass, Note. -/
import Derived.Test.YtllimlkifggakaaRefOne
namespace Go.Proofs.Ytllimlkifggakaa
open Go.ChangeShapes Go.WideShapes Go.ChangeAt Go.RowKit
set_option linter.unusedVariables false
set_option linter.unusedSimpArgs false

def strN (v : Value) : Nat := match v with | .string s => s.size | _ => 0
theorem strN_is (l : List UInt8) : strN (.string (strOf l)) = l.length := strOf_size l
theorem strOf_no (l : List UInt8) (h : l.length = 0) : (strOf l).toList.isEmpty = true := by
  rw [strOf_toList]
  cases l with
  | nil => rfl
  | cons a r => simp at h
theorem oneK_good {l : List UInt8} (hl : 1 ≤ l.length) (h : goodL l = true) : oneK l = wd l := by simp [oneK, hl, h]
set_option maxHeartbeats 1000000 in
theorem refrunes_any (l : List UInt8) (w : World) (hl : l.length ≤ 1000000) :
    Calls Try.prog 17 #[.string (strOf l)] w fun e w' => e = .returned (.tuple #[.int .i64 (runesN l : Int), .bool (okT l)]) ∧ Below w.heap.size w w' := by
  have HR : Hid (∀ b, okT l = b → runesN l = if b = true then cntT l else 0) := hideIt fun b h => by subst h; rfl
  go_enter Try.func17, Try.ntmps17
  go_wp2
  go_loopw [0, 4] (fun s n wr => ∃ (x : List UInt8) (j : Nat), x.length ≤ l.length ∧ s = .string (strOf x) ∧ n = .int .i64 (j : Int) ∧ okT l = okT x ∧ cntT l = j + cntT x ∧ Below w.heap.size w wr) (fun s _ _ => strN s)
  case atStart => exact ⟨l, 0, Nat.le_refl _, rfl, rfl, rfl, by simp, Below.refl _ _⟩
  case round =>
    obtain ⟨x, j, hx, rfl, rfl, ho, hn, hb⟩ := hrel
    have HO := hideIt ho
    have HN := hideIt hn
    have HB := hideIt hb
    clear ho hn hb
    by_cases h0 : x.length = 0
    · have hem := strOf_no x h0
      have hx0 : x = [] := List.eq_nil_of_length_eq_zero h0
      have R : Hid (runesN l = j ∧ okT l = true) := hideIt (by
        have h1 : okT l = true := by rw [HO.out, hx0]; rfl
        refine ⟨?_, h1⟩
        rw [HR.out true h1, if_pos rfl, HN.out, hx0]; rfl)
      clear hx0 h0
      generalize strOf x = S at *
      go_wp2_with fail
      go_ret2
      exact ⟨by rw [R.out.1, R.out.2]; rfl, HB.out⟩
    · have h1 : 1 ≤ x.length := by omega
      have hem := strOf_ne x h1
      have H1 := hideIt (refone_any x wr (by omega))
      have hj : j ≤ 1000000 := by have := HN.out; have := cntT_le l; omega
      have hwj : IntKind.i64.wrap ((j : Int) + 1) = (j : Int) + 1 := IntWalk.i64_in _ (by omega)
      cases hg : goodL x
      · have R : Hid (runesN l = 0 ∧ okT l = false) := hideIt (by
          have h2 : okT l = false := by rw [HO.out, okT_cons x h1, hg]; rfl
          exact ⟨by rw [HR.out false h2]; rfl, h2⟩)
        rw [(one_bad hg).2] at H1
        generalize oneR x = r at *
        generalize strOf x = S at *
        clear hg
        go_wp2_with fail
        refine H1.out.mono ?_
        rintro e w2 ⟨rfl, b2⟩
        have B2 := hideIt (below_then HB.out b2)
        clear b2
        go_wp2_with fail
        go_ret2
        exact ⟨by rw [R.out.1, R.out.2]; rfl, B2.out⟩
      · rw [oneK_good h1 hg] at H1
        have hwp := wd_pos x
        have hwl := wd_le x h1
        have hsl := run_strlo x (wd x) hwl
        have hne : ¬ (wd x : Int) = 0 := by omega
        have R : Hid (okT l = okT (x.drop (wd x)) ∧ cntT l = j + 1 + cntT (x.drop (wd x))) := hideIt ⟨by rw [HO.out, okT_cons x h1, hg]; rfl, by rw [HN.out, cntT_cons x h1]; omega⟩
        have M : Hid (strN (.string (strOf (x.drop (wd x)))) < strN (.string (strOf x))) := hideIt (by rw [strN_is, strN_is, List.length_drop]; omega)
        have L : Hid ((x.drop (wd x)).length ≤ l.length) := hideIt (by rw [List.length_drop]; omega)
        generalize oneR x = r at *
        generalize hd : x.drop (wd x) = y at *
        clear hd hg
        generalize wd x = k at *
        generalize hS : strOf x = S at *
        generalize hY : strOf y = Y at *
        have HY := hideIt hY
        clear hS hY
        go_wp2_with fail
        refine H1.out.mono ?_
        rintro e w2 ⟨rfl, b2⟩
        have B2 := hideIt (below_then HB.out b2)
        clear b2
        go_wp2_with fail
        go_roundw
        case rel => exact ⟨y, j + 1, L.out, by rw [HY.out], by go_num, R.out.1, R.out.2, B2.out⟩
        case measure => exact M.out
theorem go_refrunes : goFn Try.prog 17 = true := by kernel_rfl
end Go.Proofs.Ytllimlkifggakaa
