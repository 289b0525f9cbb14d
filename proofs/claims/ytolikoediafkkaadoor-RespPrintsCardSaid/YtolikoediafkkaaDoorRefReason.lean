/- Contracts of the reference's Statuses and Reason. -/
import Derived.Test.YtolikoediafkkaaDoorRespPlain
import Derived.Test.YtolikoediafkkaaDoorStrFacts
import Derived.Deep.Cut
import Derived.Handy
namespace Go.Proofs.YtolikoediafkkaaDoor
open Go.ChangeShapes Go.WideShapes Go.ChangeAt Go.RowKit
set_option linter.unusedVariables false
set_option linter.unusedSimpArgs false

/-- the row of the statuses -/
def statsO : Obj := .cells #[.int .i64 200, .int .i64 303, .int .i64 400, .int .i64 401, .int .i64 403, .int .i64 404, .int .i64 405, .int .i64 409, .int .i64 413, .int .i64 429, .int .i64 431, .int .i64 503] 3
theorem stats_cell (w : World) (j : Nat) (x : Int × List UInt8) (h : reasonsT[j]? = some x) : (w.alloc statsO).cell? ⟨w.heap.size, j, none⟩ = some (.int .i64 x.1) := by
  have hj : j < 12 := (List.getElem?_eq_some_iff.1 h).1
  rw [cell_of_row (w.alloc statsO) w.heap.size j _ _ _ (heap_alloc_new w statsO)]
  have e : ∀ k : Fin 12, (#[Value.int .i64 200, .int .i64 303, .int .i64 400, .int .i64 401, .int .i64 403, .int .i64 404, .int .i64 405, .int .i64 409, .int .i64 413, .int .i64 429, .int .i64 431, .int .i64 503] : Array Value)[k.val]? = (reasonsT[k.val]?).map fun x => Value.int .i64 x.1 := by
    intro k
    match k with
    | ⟨0, _⟩ => rfl
    | ⟨1, _⟩ => rfl
    | ⟨2, _⟩ => rfl
    | ⟨3, _⟩ => rfl
    | ⟨4, _⟩ => rfl
    | ⟨5, _⟩ => rfl
    | ⟨6, _⟩ => rfl
    | ⟨7, _⟩ => rfl
    | ⟨8, _⟩ => rfl
    | ⟨9, _⟩ => rfl
    | ⟨10, _⟩ => rfl
    | ⟨11, _⟩ => rfl
  rw [e ⟨j, hj⟩, h]
  rfl
set_option maxRecDepth 8000 in
theorem refstatuses_any (w : World) : Calls Tryd.prog 19 #[] w fun e w' => e = .returned (.slice (some ⟨w.heap.size, 0, none⟩) 12 12) ∧ w' = w.alloc statsO := by
  go_enter Tryd.func19, Tryd.ntmps19
  go_wp2
  go_ret
  exact ⟨rfl, rfl⟩
theorem go_refstatuses : goFn Tryd.prog 19 = true := by kernel_rfl
/-- the row of the reasons -/
def reasO : Obj := .cells ((reasonsT.map fun x => Value.string (strOf x.2)).toArray) 9
theorem reas_cell (w : World) (j : Nat) (x : Int × List UInt8) (h : reasonsT[j]? = some x) : (w.alloc reasO).cell? ⟨w.heap.size, j, none⟩ = some (.string (strOf x.2)) := by
  rw [cell_of_row (w.alloc reasO) w.heap.size j _ _ _ (heap_alloc_new w reasO)]
  simp [h]
theorem reason_at {s : Int} {j : Nat} {x : Int × List UInt8} (h : ∀ y ∈ reasonsT.take j, y.1 ≠ s) (hx : reasonsT[j]? = some x) (hs : x.1 = s) : reasonL s = x.2 := by
  obtain ⟨h1, h2⟩ := List.getElem?_eq_some_iff.1 hx
  have e : reasonsT = reasonsT.take j ++ x :: reasonsT.drop (j + 1) := by
    rw [← h2, ← List.drop_eq_getElem_cons h1, List.take_append_drop]
  unfold reasonL
  rw [e, List.find?_append]
  have h0 : (reasonsT.take j).find? (fun x => x.1 == s) = none := List.find?_eq_none.2 fun y hy => by simp [h y hy]
  rw [h0, List.find?_cons]
  simp [hs]
theorem reason_no {s : Int} (h : ∀ y ∈ reasonsT.take 12, y.1 ≠ s) : reasonL s = [] := by
  have e : reasonsT.take 12 = reasonsT := rfl
  rw [e] at h
  unfold reasonL
  have h0 : reasonsT.find? (fun x => x.1 == s) = none := List.find?_eq_none.2 fun y hy => by simp [h y hy]
  rw [h0]
set_option maxRecDepth 8000 in
set_option maxHeartbeats 2000000 in
theorem refreason_any (s : Int) (w : World) : Calls Tryd.prog 16 #[.int .i64 s] w fun e w' => e = .returned (.string (strOf (reasonL s))) ∧ Below w.heap.size w w' := by
  obtain ⟨X, hX⟩ : ∃ X, w.alloc reasO = X := ⟨_, rfl⟩
  have hxs : X.heap.size = w.heap.size + 1 := by rw [← hX]; exact alloc_size w _
  have hbx : Below w.heap.size w X := by rw [← hX]; exact below_new w _
  have hrc : ∀ j x, reasonsT[j]? = some x → X.cell? ⟨w.heap.size, j, none⟩ = some (.string (strOf x.2)) := fun j x h => by rw [← hX]; exact reas_cell w j x h
  have hby := below_new X statsO
  have HST := hideIt (refstatuses_any X)
  rw [hxs] at HST
  obtain ⟨Y, hY⟩ : ∃ Y, X.alloc statsO = Y := ⟨_, rfl⟩
  rw [hY] at hby HST
  have hsc : ∀ j x, reasonsT[j]? = some x → Y.cell? ⟨w.heap.size + 1, j, none⟩ = some (.int .i64 x.1) := fun j x h => by rw [← hY, ← hxs]; exact stats_cell X j x h
  have HRC := hideIt (fun j x h => (hby.cell (p := ⟨w.heap.size, j, none⟩) (show w.heap.size < X.heap.size by omega)).trans (hrc j x h))
  have HSC := hideIt hsc
  have HB := hideIt (below_then hbx hby)
  have HX : Hid (w.alloc (.cells #[.string ⟨#[79, 75]⟩, .string ⟨#[83, 101, 101, 32, 79, 116, 104, 101, 114]⟩, .string ⟨#[66, 97, 100, 32, 82, 101, 113, 117, 101, 115, 116]⟩, .string ⟨#[85, 110, 97, 117, 116, 104, 111, 114, 105, 122, 101, 100]⟩, .string ⟨#[70, 111, 114, 98, 105, 100, 100, 101, 110]⟩, .string ⟨#[78, 111, 116, 32, 70, 111, 117, 110, 100]⟩, .string ⟨#[77, 101, 116, 104, 111, 100, 32, 78, 111, 116, 32, 65, 108, 108, 111, 119, 101, 100]⟩, .string ⟨#[67, 111, 110, 102, 108, 105, 99, 116]⟩, .string ⟨#[67, 111, 110, 116, 101, 110, 116, 32, 84, 111, 111, 32, 76, 97, 114, 103, 101]⟩, .string ⟨#[84, 111, 111, 32, 77, 97, 110, 121, 32, 82, 101, 113, 117, 101, 115, 116, 115]⟩, .string ⟨#[82, 101, 113, 117, 101, 115, 116, 32, 72, 101, 97, 100, 101, 114, 32, 70, 105, 101, 108, 100, 115, 32, 84, 111, 111, 32, 76, 97, 114, 103, 101]⟩, .string ⟨#[83, 101, 114, 118, 105, 99, 101, 32, 85, 110, 97, 118, 97, 105, 108, 97, 98, 108, 101]⟩] 9) = X) := hideIt hX
  obtain ⟨R, hR⟩ : ∃ R, reasonL s = R := ⟨_, rfl⟩
  have HR := hideIt hR
  rw [hR]
  clear hX hY hbx hby hrc hsc hxs hR
  go_enter Tryd.func16, Tryd.ntmps16
  go_upto_region 2 with fail
  rw [HX.out]
  go_wp2_with fail
  refine HST.out.mono ?_
  rintro e w2 ⟨rfl, rfl⟩
  go_wp2_with fail
  go_loopw [5] (fun i wr => ∃ j : Nat, j ≤ 12 ∧ i = .int .i64 (j : Int) ∧ (∀ y ∈ reasonsT.take j, y.1 ≠ s) ∧ wr = w2) (fun i wr => 12 - (intOf i).toNat)
  case atStart => exact ⟨0, by omega, rfl, by simp, rfl⟩
  case round =>
    obtain ⟨j, hj, rfl, hall, rfl⟩ := hrel
    have HALL := hideIt hall
    clear hall
    have hwj : IntKind.i64.wrap ((j : Int) + 1) = (j : Int) + 1 := IntWalk.i64_in _ (by omega)
    by_cases hlt : j < 12
    · have hji : (j : Int) < 12 := by omega
      obtain ⟨x, hx⟩ : ∃ x, reasonsT[j]? = some x := ⟨_, List.getElem?_eq_getElem hlt⟩
      have c1 := HSC.out j x hx
      have c2 := HRC.out j x hx
      have HXX := hideIt hx
      by_cases hs : x.1 = s
      · have E : Hid (R = x.2) := hideIt (by rw [← HR.out]; exact reason_at HALL.out HXX.out hs)
        have hq : (x.1 == s) = true := by simpa using hs
        rw [hs] at c1
        clear hx hq
        go_wp2_with fail
        go_ret
        exact ⟨by rw [E.out]; rfl, HB.out⟩
      · have hq : (x.1 == s) = false := by simpa using hs
        have TS : Hid (∀ y ∈ reasonsT.take (j + 1), y.1 ≠ s) := hideIt (by
          intro y hy
          obtain ⟨h1, h2⟩ := List.getElem?_eq_some_iff.1 HXX.out
          rw [List.take_succ_eq_append_getElem h1, h2] at hy
          rcases List.mem_append.1 hy with hy | hy
          · exact HALL.out y hy
          · rw [List.mem_singleton.1 hy]; exact hs)
        generalize x.1 = xs at *
        clear hx
        go_wp2_with fail
        go_roundw
        case rel => exact ⟨j + 1, by omega, by go_num, TS.out, by trivial⟩
        case measure => simp [intOf]; omega
    · obtain rfl : j = 12 := by omega
      have E : Hid (R = []) := hideIt (by rw [← HR.out]; exact reason_no HALL.out)
      go_wp2_with fail
      go_ret
      exact ⟨by rw [E.out]; rfl, HB.out⟩
theorem go_refreason : goFn Tryd.prog 16 = true := by kernel_rfl
end Go.Proofs.YtolikoediafkkaaDoor
