/- Contract of fill.Get. -/
import Derived.Test.YtccppgiigkmdbaaDoorPairs
import Derived.Test.YtccppgiigkmdbaaDoorClone
import Derived.Test.YtccppgiigkmdbaaDoorStrRun
import Derived.Test.YtccppgiigkmdbaaDoorCmp
namespace Go.Proofs.YtccppgiigkmdbaaDoor
open Go.ChangeShapes Go.WideShapes Go.ChangeAt Go.RowKit
set_option linter.unusedVariables false
set_option linter.unusedSimpArgs false

theorem str_ne {a b : List UInt8} (h : ¬ a = b) : ((strOf a).toList == (strOf b).toList) = false := by
  rw [strOf_toList, strOf_toList, beq_eq_false_iff_ne]; exact h
/-- those of the first i that have the name -/
def named (ps : List PairL) (n : List UInt8) (i : Nat) : List PairL := (ps.take i).filter fun x => decide (x.1 = n)
theorem named_zero (ps : List PairL) (n : List UInt8) : named ps n 0 = [] := rfl
theorem named_succ (ps : List PairL) (n : List UInt8) (i : Nat) (x : PairL) (h : ps[i]? = some x) : named ps n (i + 1) = named ps n i ++ if x.1 = n then [x] else [] := by
  obtain ⟨hi, rfl⟩ := List.getElem?_eq_some_iff.1 h
  rw [named, List.take_add_one, List.filter_append, h]
  simp [List.filter_cons]
  rfl
theorem named_all (ps : List PairL) (n : List UInt8) : named ps n ps.length = ps.filter fun x => decide (x.1 = n) := by rw [named, List.take_length]
theorem named_le (ps : List PairL) (n : List UInt8) (i : Nat) : (named ps n i).length ≤ i := Nat.le_trans (List.length_filter_le ..) (by simp; omega)
/-- the value of the last one -/
def lastV (l : List PairL) : List UInt8 := (l.getLast?.map (·.2)).getD []
theorem lastV_one (l : List PairL) (x : PairL) : lastV (l ++ [x]) = x.2 := by simp [lastV]
theorem get_is (ps : List PairL) (n : List UInt8) : getL ps n = if (named ps n ps.length).length = 1 then some (lastV (named ps n ps.length)) else none := by
  rw [getL, named_all]
  cases h : ps.filter (fun x => decide (x.1 = n)) with
  | nil => rfl
  | cons a r =>
    cases r with
    | nil => rfl
    | cons b r => simp
set_option maxRecDepth 8000 in
set_option maxHeartbeats 2000000 in
theorem fget_any (A : Option Addr) (n c : Nat) (ps : List PairL) (name : List UInt8) (w : World) (hp : PairsAt w A ps) (hn : ps.length = n) (hl : n ≤ 1000000) (hv : ∀ x ∈ ps, x.1.length + x.2.length ≤ 1000000) (hnc : n ≤ c) (hcc : c ≤ 9223372036854775807) :
    Calls Tryd.prog 24 #[.slice A n c, .string (strOf name)] w fun e w' => e = .returned (.tuple #[.string (strOf ((getL ps name).getD [])), .bool (getL ps name).isSome]) ∧ Below w.heap.size w w' := by
  have HP := hideIt hp
  have HG := hideIt (get_is ps name)
  have HV := hideIt hv
  clear hp hv
  subst hn
  have HL := hideIt (named_all ps name)
  go_enter Tryd.func24, Tryd.ntmps24
  go_wp2
  go_loopw [6, 7, 12] (fun v t i wr => ∃ j : Nat, j ≤ ps.length ∧ i = .int .i64 j ∧ t = .int .i64 ((named ps name j).length : Int) ∧ v = .string (strOf (lastV (named ps name j))) ∧ Below w.heap.size w wr) (fun v t i wr => ps.length - (intOf i).toNat)
  case atStart => exact ⟨0, by omega, rfl, rfl, rfl, Below.refl _ _⟩
  case round =>
    obtain ⟨j, hj, rfl, rfl, rfl, hb⟩ := hrel
    have HB := hideIt hb
    clear hb
    have hnl := named_le ps name j
    by_cases hlt : j < ps.length
    · have hji : (j : Int) < (ps.length : Int) := by omega
      obtain ⟨x, hx⟩ : ∃ x, ps[j]? = some x := ⟨_, List.getElem?_eq_getElem hlt⟩
      obtain ⟨b, off, rfl, hlt2, hc⟩ := (HP.out.keep HB.out) (by omega)
      obtain ⟨c1, c2⟩ := hc j x hx
      have HX := hideIt (named_succ ps name j x hx)
      clear hc
      rw [show off + 2 * j = off + j * 2 by omega] at c1 c2
      by_cases he : x.1 = name
      · rw [if_pos he] at HX
        go_wp2
        refine ⟨⟨j + 1, by omega, by go_num, ?_, ?_, below_one HB.out _⟩, by simp [intOf]; omega⟩
        · rw [HX.out, List.length_append]; rfl
        · rw [HX.out, lastV_one]
      · rw [if_neg he, List.append_nil] at HX
        have hne : ((strOf x.1).toList == (strOf name).toList) = false := str_ne he
        go_wp2
        refine ⟨⟨j + 1, by omega, by go_num, by rw [HX.out], by rw [HX.out], below_one HB.out _⟩, by simp [intOf]; omega⟩
    · obtain rfl : j = ps.length := by omega
      by_cases h1 : (named ps name ps.length).length = 1
      · rw [if_pos h1] at HG
        have hsz : (lastV (named ps name ps.length)).length ≤ 1000000 := by
          obtain ⟨x, hx⟩ := List.length_eq_one_iff.1 h1
          have hm : x ∈ named ps name ps.length := by rw [hx]; simp
          have := HV.out x (by rw [HL.out] at hm; exact (List.mem_filter.1 hm).1)
          rw [hx]; simp [lastV]; omega
        have HC := hideIt (clone_any (strOf (lastV (named ps name ps.length))) wr (by rw [strOf_size]; omega))
        have h1' : ((named ps name ps.length).length : Int) = 1 := by omega
        clear h1 hsz hnl
        generalize ((named ps name ps.length).length : Int) = t at *
        subst h1'
        go_wp2_with fail
        refine HC.out.mono ?_
        rintro e w2 ⟨rfl, hb2⟩
        have F := hideIt (below_then HB.out hb2)
        clear hb2
        go_wp2_with fail
        go_ret2
        exact ⟨by rw [HG.out]; rfl, F.out⟩
      · rw [if_neg h1] at HG
        have h1' : (((named ps name ps.length).length : Int) == 1) = false := by rw [beq_eq_false_iff_ne]; omega
        clear h1
        go_wp2
        go_ret2
        exact ⟨by rw [HG.out]; rfl, HB.out⟩
theorem go_fget : goFn Tryd.prog 24 = true := by kernel_rfl
end Go.Proofs.YtccppgiigkmdbaaDoor
