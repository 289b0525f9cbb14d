/- The walk of FillMany. -/
import Derived.Test.YtccppgiigkmdbaaDoorFillKnown
import Derived.Test.YtccppgiigkmdbaaDoorCmp
import Derived.Test.YtccppgiigkmdbaaDoorStrRun
import Derived.Test.YtccppgiigkmdbaaDoorUtfLaid
import Derived.Deep.Cut
import Derived.Handy
namespace Go.Proofs.YtccppgiigkmdbaaDoor
open Go.ChangeShapes Go.WideShapes Go.ChangeAt Go.RowKit
set_option linter.unusedVariables false
set_option linter.unusedSimpArgs false

def oneP : PairL := ([97], [49])
def manyL (k : Nat) : List UInt8 := printL (List.replicate k oneP)
theorem pairT_one : pairT oneP = [97, 61, 49] := by decide
theorem many_one : manyL 1 = [97, 61, 49] := pairT_one
theorem many_succ (k : Nat) (h : 0 < k) : manyL (k + 1) = manyL k ++ [38] ++ [97, 61, 49] := by
  unfold manyL
  rw [List.replicate_succ', print_append _ [oneP] (by intro e; have := congrArg List.length e; simp at this; omega) (by simp), print_one, pairT_one]
  simp
theorem many_front (k : Nat) (h : 0 < k) : [61, 49, 38] ++ manyL k = printL (([], [49]) :: List.replicate k oneP) := by
  have := print_append [([], [49])] (List.replicate k oneP) (by simp) (by intro e; have := congrArg List.length e; simp at this; omega)
  rw [List.singleton_append] at this
  rw [this]
  rfl
theorem many_len (k : Nat) : (manyL k).length ≤ 4 * k := by
  induction k with
  | zero => simp [manyL, printL, joinL]
  | succ k ih =>
    rcases Nat.eq_zero_or_pos k with rfl | h
    · rw [many_one]; simp
    · rw [many_succ k h]; simp; omega
theorem many_parse (k : Nat) : parseL (manyL k) = if k ≤ 30 then (List.replicate k oneP, 0) else ([], 3) := by
  split
  · exact parse_print _ (fun x hx => by rw [List.eq_of_mem_replicate hx]; decide) (by simp; assumption)
  · exact parse_many _ (by simp; omega)
theorem many_parse2 (k : Nat) (h0 : 0 < k) : parseL ([61, 49, 38] ++ manyL k) = if k < 30 then ([], 10) else ([], 3) := by
  rw [many_front k h0]
  split
  · exact parse_unnamed _ ⟨([], [49]), by simp, rfl⟩ (by simp; omega)
  · exact parse_many _ (by simp; omega)
set_option maxHeartbeats 4000000 in
theorem fillMany_walk (a0 : Int) (a1 : Bool) (w0 : (Lit.int .u8 a0).wf = true) (w : World) (hT : Tabs w) :
    Calls Tryd.prog 7 #[.int .u8 a0, .bool a1] w fun e w' => e = .returned (.bool true) ∧ Below w.heap.size w w' := by
  have hi1 := bounds_u8 w0
  obtain ⟨n, rfl, hn⟩ : ∃ n : Nat, a0 = (n : Int) ∧ n < 256 := ⟨a0.toNat, by omega, by omega⟩
  have hmod : Int.tmod (n : Int) 40 = ((n % 40 : Nat) : Int) := by rw [Int.tmod_eq_emod_of_nonneg (by omega)]; rfl
  have h40 : n % 40 < 40 := Nat.mod_lt _ (by decide)
  have hw8 : IntKind.u8.wrap ((n % 40 : Nat) : Int) = ((n % 40 : Nat) : Int) := by rw [IntKind.wrap_u8']; omega
  have hw6 : IntKind.i64.wrap ((n % 40 : Nat) : Int) = ((n % 40 : Nat) : Int) := IntWalk.i64_in _ (by omega)
  have hw7 : IntKind.i64.wrap (1 + ((n % 40 : Nat) : Int)) = ((n % 40 + 1 : Nat) : Int) := by rw [IntWalk.i64_in _ (by omega)]; omega
  clear w0 hT hi1
  have hk1 : 0 < n % 40 + 1 := by omega
  have hk2 : n % 40 + 1 ≤ 40 := by omega
  generalize n % 40 + 1 = k at *
  generalize n % 40 = m at *
  go_enter Tryd.func7, Tryd.ntmps7
  go_wp2_with fail
  go_loopw [6, 7] (fun s i wr => ∃ j : Nat, j ≤ k ∧ i = .int .i64 (j : Int) ∧ s = .string (strOf (manyL j)) ∧ wr = w) (fun _ i _ => k - (intOf i).toNat)
  case atStart => exact ⟨0, by omega, rfl, rfl, rfl⟩
  case round =>
    obtain ⟨j, hj, rfl, rfl, rfl⟩ := hrel
    by_cases hlt : j < k
    · have hlt' : (j : Int) < (k : Int) := by omega
      have hml := many_len j
      have hwj : IntKind.i64.wrap ((j : Int) + 1) = (j : Int) + 1 := IntWalk.i64_in _ (by omega)
      by_cases h0 : j = 0
      · subst h0
        have z0 : (strOf (manyL 0)).size ≤ 200 := by rw [strOf_size]; omega
        have H2 : Hid (strOf (manyL 0) ++ ⟨#[97, 61, 49]⟩ = strOf (manyL (0 + 1))) := hideIt (by rw [show (⟨#[97, 61, 49]⟩ : ByteArray) = strOf [97, 61, 49] from rfl, strOf_append]; congr 1)
        generalize strOf (manyL 0) = s0 at *
        go_wp2_with fail
        go_roundw
        case rel => exact ⟨0 + 1, by omega, by go_num, by rw [H2.out], trivial⟩
        case measure => simp [intOf]; omega
      · have h0' : (0 : Int) < (j : Int) := by omega
        have z0 : (strOf (manyL j)).size ≤ 200 := by rw [strOf_size]; omega
        have z1 : (strOf (manyL j) ++ ⟨#[38]⟩).size ≤ 201 := by rw [show (⟨#[38]⟩ : ByteArray) = strOf [38] from rfl, strOf_append, strOf_size]; simp; omega
        have H2 : Hid (strOf (manyL j) ++ ⟨#[38]⟩ ++ ⟨#[97, 61, 49]⟩ = strOf (manyL (j + 1))) := hideIt (by rw [show (⟨#[97, 61, 49]⟩ : ByteArray) = strOf [97, 61, 49] from rfl, show (⟨#[38]⟩ : ByteArray) = strOf [38] from rfl, strOf_append, strOf_append, many_succ j (by omega)])
        generalize strOf (manyL j) = s0 at *
        go_wp2_with fail
        go_roundw
        case rel => exact ⟨j + 1, by omega, by go_num, by rw [H2.out], trivial⟩
        case measure => simp [intOf]; omega
    · obtain rfl : j = k := by omega
      have hlt' : ¬ (j : Int) < (j : Int) := by omega
      have hml := many_len j
      obtain ⟨c1, w1, hcv, hp1, hb1⟩ := conv_str wr (manyL j) (by omega)
      have HP := hideIt (fparse_any _ (manyL j) _ c1 w1 hp1 rfl (by omega))
      rw [many_parse] at HP
      have HB1 := hideIt hb1
      have zj : (strOf (manyL j)).size ≤ 200 := by rw [strOf_size]; omega
      have HC2 : Hid (⟨#[61, 49, 38]⟩ ++ strOf (manyL j) = strOf ([61, 49, 38] ++ manyL j)) := hideIt (by rw [show (⟨#[61, 49, 38]⟩ : ByteArray) = strOf [61, 49, 38] from rfl, strOf_append])
      have H2 : Hid (∀ W, ∃ c n w', (convert 9 22 (.string (⟨#[61, 49, 38]⟩ ++ strOf (manyL j)))).run Tryd.prog W = .ok (.slice (some ⟨W.heap.size, 0, none⟩) n c) w' ∧ Below W.heap.size W w' ∧ Calls Tryd.prog 22 #[.slice (some ⟨W.heap.size, 0, none⟩) n c] w' fun e w'' => ∃ v, e = .returned (.tuple #[v, .int .u16 (if (j : Int) < 30 then 10 else 3)]) ∧ Below w'.heap.size w' w'') := hideIt fun W => by
        obtain ⟨c, w', h1, h2, h3⟩ := conv_str W ([61, 49, 38] ++ manyL j) (by simp; omega)
        rw [← HC2.out] at h1
        refine ⟨c, _, w', h1, h3, ?_⟩
        have := fparse_any _ _ _ c w' h2 rfl (by simp; omega)
        rw [many_parse2 j (by omega)] at this
        refine this.mono ?_
        rintro e w'' ⟨v, rfl, _, hb⟩
        refine ⟨v, ?_, hb⟩
        by_cases h : j < 30
        · rw [if_pos h, if_pos (by omega)]; rfl
        · rw [if_neg h, if_neg (by omega)]; rfl
      have HK := hideIt known7_any
      have HN : Hid (∀ W, Calls Tryd.prog 22 #[.slice none 0 0] W fun e w'' => ∃ A c, e = .returned (.tuple #[.slice A 0 c, .int .u16 0]) ∧ Below W.heap.size W w'') := hideIt fun W => by
        have := fparse_any none [] 0 0 W ⟨fun h => by simp at h, by simp, by simp, by simp, fun _ => rfl⟩ rfl (by omega)
        refine this.mono ?_
        rintro e w'' ⟨v, rfl, ho, hb⟩
        rw [show parseL [] = ([], 0) from rfl] at ho ⊢
        obtain ⟨A, c, rfl, _⟩ := ho.open
        exact ⟨A, c, rfl, hb⟩
      clear hp1 hb1 HC2
      have HP' : Hid (Calls Tryd.prog 22 #[.slice (some ⟨wr.heap.size, 0, none⟩) (manyL j).length c1] w1 fun e w'' => ∃ A n c r, e = .returned (.tuple #[.slice A n c, .int .u16 r]) ∧ Hid (((j : Int) ≤ 30 ∧ n = j ∧ r = 0) ∨ ((30 : Int) < (j : Int) ∧ n = 0 ∧ r = 3)) ∧ Below w1.heap.size w1 w'') := hideIt (by
        refine HP.out.mono ?_
        rintro e w'' ⟨v, rfl, ho, hb⟩
        obtain ⟨A, c, rfl, _⟩ := ho.open
        by_cases h : j ≤ 30
        · rw [if_pos h]
          exact ⟨A, _, c, _, rfl, hideIt (.inl ⟨by omega, by simp, rfl⟩), hb⟩
        · rw [if_neg h]
          exact ⟨A, _, c, _, rfl, hideIt (.inr ⟨by omega, by simp, rfl⟩), hb⟩)
      clear HP
      generalize (manyL j).length = L at *
      generalize strOf (manyL j) = sj at *
      have hj0 : (0 : Int) < (j : Int) := by omega
      have hj4 : (j : Int) ≤ 40 := by omega
      cases a1
      · skip
        go_wp2_with fail
        refine HP'.out.mono ?_
        rintro e w2 ⟨A2, n2, c2, r2, rfl, hn2, hb2⟩
        have B2 := hideIt (below_then HB1.out hb2)
        clear hb2
        go_wp2_with fail
        refine (HN.out _).mono ?_
        rintro e w3 ⟨A3, c3, rfl, hb3⟩
        have B3 := hideIt (below_then B2.out hb3)
        clear hb3
        rcases hn2.out with ⟨h30, rfl, rfl⟩ | ⟨h30, rfl, rfl⟩
        · clear hn2
          go_wp2_with fail
          refine (HK.out _).mono ?_
          rintro e w7 ⟨rfl, hb7⟩
          have B7 := hideIt (below_then B3.out hb7)
          clear hb7
          go_wp2_with fail
          go_ret
          exact ⟨rfl, B7.out⟩
        · clear hn2
          have hd : decide ((j : Int) ≤ 30) = false := decide_eq_false (by omega)
          go_wp2_with fail
          refine (HK.out _).mono ?_
          rintro e w7 ⟨rfl, hb7⟩
          have B7 := hideIt (below_then B3.out hb7)
          clear hb7
          go_wp2_with fail
          go_ret
          exact ⟨rfl, B7.out⟩
      · skip
        go_wp2_with fail
        refine HP'.out.mono ?_
        rintro e w2 ⟨A2, n2, c2, r2, rfl, hn2, hb2⟩
        have B2 := hideIt (below_then HB1.out hb2)
        clear hb2
        obtain ⟨c5, n5, w5, hcv5, hb5, hP5⟩ := H2.out w2
        have B5 := hideIt (below_then B2.out hb5)
        have HP5 := hideIt hP5
        clear hb5 hP5 hcv
        by_cases h30 : (j : Int) < 30
        · rw [if_pos h30] at HP5
          go_wp2_with fail
          refine HP5.out.mono ?_
          rintro e w6 ⟨v6, rfl, hb6⟩
          have B6 := hideIt (below_then B5.out hb6)
          clear hb6
          go_wp2_with fail
          refine (HK.out _).mono ?_
          rintro e w7 ⟨rfl, hb7⟩
          have B7 := hideIt (below_then B6.out hb7)
          clear hb7
          go_wp2_with fail
          go_ret
          exact ⟨rfl, B7.out⟩
        · rw [if_neg h30] at HP5
          have h30' : (30 : Int) ≤ (j : Int) := by omega
          go_wp2_with fail
          refine HP5.out.mono ?_
          rintro e w6 ⟨v6, rfl, hb6⟩
          have B6 := hideIt (below_then B5.out hb6)
          clear hb6
          go_wp2_with fail
          refine (HK.out _).mono ?_
          rintro e w7 ⟨rfl, hb7⟩
          have B7 := hideIt (below_then B6.out hb7)
          clear hb7
          go_wp2_with fail
          go_ret
          exact ⟨rfl, B7.out⟩
end Go.Proofs.YtccppgiigkmdbaaDoor
