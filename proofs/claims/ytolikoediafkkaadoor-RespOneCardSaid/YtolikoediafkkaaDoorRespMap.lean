/- Contracts of resp.statuses and resp.Reason: a map that is made, filled and asked. -/
import Derived.Test.YtolikoediafkkaaDoorRespPlain
import Derived.Test.YtolikoediafkkaaDoorStrFacts
import Derived.MapKept
import Derived.ChangeMaps4
import Derived.Carry
import Derived.Handy
namespace Go.Proofs.YtolikoediafkkaaDoor
open Go.ChangeShapes Go.WideShapes Go.ChangeAt Go.RowKit
set_option linter.unusedVariables false
set_option linter.unusedSimpArgs false

/-- the first entries of the map -/
def entR (n : Nat) : List MapEntry := (reasonsT.take n).mapIdx fun i x => { key := .int .i64 x.1, val := .agg #[.string (strOf x.2)], born := i }
/-- the map, with its first entries -/
def mapR (n : Nat) : Obj := .map (entR n).toArray n
theorem findR (k : Int) (n : Nat) : ∀ (l : List (Int × List UInt8)) (i : Nat),
    Instr.findNow (.int .i64) (.int .i64 k) (l.mapIdx fun i x => { key := .int .i64 x.1, val := .agg #[.string (strOf x.2)], born := n + i }) i =
      match l.find? (fun x => x.1 == k) with
      | none => some none
      | some x => some (some (i + (l.findIdx (fun x => x.1 == k)), .agg #[.string (strOf x.2)])) := by
  intro l
  induction l generalizing n with
  | nil => intro i; simp [Instr.findNow]
  | cons x l ih =>
    intro i
    rw [List.mapIdx_cons]
    by_cases h : x.1 = k
    · have h1 : (x.1 == k) = true := by simpa using h
      have h2 : (k == x.1) = true := by simp [h]
      simp [Instr.findNow, Instr.sameNow, h, List.find?_cons, h1, List.findIdx_cons]
    · have h1 : (x.1 == k) = false := by simpa using h
      have h2 : (k == x.1) = false := by simpa using fun e : k = x.1 => h e.symm
      have e : (fun (i : Nat) (x : Int × List UInt8) => ({ key := .int .i64 x.1, val := .agg #[.string (strOf x.2)], born := n + (i + 1) } : MapEntry)) = fun i x => { key := .int .i64 x.1, val := .agg #[.string (strOf x.2)], born := (n + 1) + i } := by
        funext i x
        rw [show n + (i + 1) = (n + 1) + i by omega]
      simp only [Instr.findNow, Instr.sameNow, h2, if_true, e, ih (n + 1) (i + 1), List.find?_cons, h1, List.findIdx_cons, cond_false]
      cases l.find? (fun x => x.1 == k) with
      | none => rfl
      | some y => simp; omega
theorem setR_alloc (a : Array Obj) (o o' : Obj) : (a.push o).setIfInBounds a.size o' = a.push o' := by
  apply Array.ext
  · simp
  · intro i h1 h2
    have h3 : i < (a.push o).size := by simpa using h1
    rw [Array.getElem_setIfInBounds h3, Array.getElem_push, Array.getElem_push]
    by_cases hi : a.size = i
    · subst hi; simp
    · rw [if_neg hi]
      have : i < a.size := by simp at h3; omega
      simp [this]
theorem run_insR (w : World) (n : Nat) (x : Int × List UInt8) (hx : reasonsT[n]? = some x) (hn : (reasonsT.take n).find? (fun y => y.1 == x.1) = none) :
    (Instr.mapUpdate 61 (.map (some w.heap.size)) (.int .i64 x.1) (.agg #[.string (strOf x.2)])).run Tryd.prog (w.alloc (mapR n)) = .ok () (w.alloc (mapR (n + 1))) := by
  have hb : (w.alloc (mapR n)).heap[w.heap.size]? = some (.map (entR n).toArray n) := heap_alloc_new w _
  have hk : MapKept.IsKey (.int .i64) (Value.int .i64 x.1) := rfl
  have h1 : Instr.findNow (.int .i64) (.int .i64 x.1) (entR n).toArray.toList 0 = some none := by
    have := findR x.1 0 (reasonsT.take n) 0
    rw [hn] at this
    simpa [entR] using this
  simp [Instr.mapUpdate, run_underlying Tryd.underlying61, MapKept.run_getObj_map hb, MapKept.run_checkKey Tryd.underlying3 hk, MapKept.run_findKey Tryd.underlying3 h1, MapKept.run_setObj_map _ hb, Result.andThen]
  have e : entR (n + 1) = entR n ++ [{ key := .int .i64 x.1, val := .agg #[.string (strOf x.2)], born := n }] := by
    have hl : n < reasonsT.length := (List.getElem?_eq_some_iff.1 hx).1
    have hg : reasonsT[n] = x := (List.getElem?_eq_some_iff.1 hx).2
    unfold entR
    rw [← List.take_append_getElem hl, List.mapIdx_append, hg]
    simp [Nat.min_eq_left (Nat.le_of_lt hl)]
  have hh : (w.alloc (mapR n)).heap = w.heap.push (mapR n) := rfl
  rw [hh, setR_alloc]
  unfold mapR
  rw [e]
  rfl
theorem run_mapR (w : World) : (Instr.makeMap 61 none).run Tryd.prog w = .ok (.map (some w.heap.size)) (w.alloc (mapR 0)) := rfl
theorem run_askR (w : World) (s : Int) : (Instr.lookup 61 (.map (some w.heap.size)) (.int .i64 s) false).run Tryd.prog (w.alloc (mapR 12)) = .ok (.agg #[.string (strOf (reasonL s))]) (w.alloc (mapR 12)) := by
  have hb : (w.alloc (mapR 12)).heap[w.heap.size]? = some (.map (entR 12).toArray 12) := heap_alloc_new w _
  have hk : MapKept.IsKey (.int .i64) (Value.int .i64 s) := rfl
  have h0 := findR s 0 reasonsT 0
  have e12 : (entR 12).toArray.toList = reasonsT.mapIdx fun i x => { key := .int .i64 x.1, val := .agg #[.string (strOf x.2)], born := 0 + i } := by
    simp [entR, reasonsT]
  rw [← e12] at h0
  unfold reasonL
  cases hf : reasonsT.find? (fun x => x.1 == s) with
  | none =>
    rw [hf] at h0
    have hz := Tryd.zeroValue60
    simp [Instr.lookup, run_underlying Tryd.underlying61, MapKept.run_getObj_map hb, MapKept.run_checkKey Tryd.underlying3 hk, MapKept.run_findKey Tryd.underlying3 h0, hz, Result.andThen]
    rfl
  | some x =>
    rw [hf] at h0
    simp [Instr.lookup, run_underlying Tryd.underlying61, MapKept.run_getObj_map hb, MapKept.run_checkKey Tryd.underlying3 hk, MapKept.run_findKey Tryd.underlying3 h0, Result.andThen]
set_option maxRecDepth 8000 in
set_option maxHeartbeats 2000000 in
theorem statuses_any (w : World) : Calls Tryd.prog 30 #[] w fun e w' => e = .returned (.map (some w.heap.size)) ∧ w' = w.alloc (mapR 12) := by
  have hmm := run_mapR w
  have i0 : (Instr.mapUpdate 61 (.map (some w.heap.size)) (.int .i64 200) (.agg #[.string ⟨#[79, 75]⟩])).run Tryd.prog (w.alloc (mapR 0)) = .ok () (w.alloc (mapR 1)) := run_insR w 0 (200, [79, 75]) rfl (by decide +kernel)
  have i1 : (Instr.mapUpdate 61 (.map (some w.heap.size)) (.int .i64 303) (.agg #[.string ⟨#[83, 101, 101, 32, 79, 116, 104, 101, 114]⟩])).run Tryd.prog (w.alloc (mapR 1)) = .ok () (w.alloc (mapR 2)) := run_insR w 1 (303, [83, 101, 101, 32, 79, 116, 104, 101, 114]) rfl (by decide +kernel)
  have i2 : (Instr.mapUpdate 61 (.map (some w.heap.size)) (.int .i64 400) (.agg #[.string ⟨#[66, 97, 100, 32, 82, 101, 113, 117, 101, 115, 116]⟩])).run Tryd.prog (w.alloc (mapR 2)) = .ok () (w.alloc (mapR 3)) := run_insR w 2 (400, [66, 97, 100, 32, 82, 101, 113, 117, 101, 115, 116]) rfl (by decide +kernel)
  have i3 : (Instr.mapUpdate 61 (.map (some w.heap.size)) (.int .i64 401) (.agg #[.string ⟨#[85, 110, 97, 117, 116, 104, 111, 114, 105, 122, 101, 100]⟩])).run Tryd.prog (w.alloc (mapR 3)) = .ok () (w.alloc (mapR 4)) := run_insR w 3 (401, [85, 110, 97, 117, 116, 104, 111, 114, 105, 122, 101, 100]) rfl (by decide +kernel)
  have i4 : (Instr.mapUpdate 61 (.map (some w.heap.size)) (.int .i64 403) (.agg #[.string ⟨#[70, 111, 114, 98, 105, 100, 100, 101, 110]⟩])).run Tryd.prog (w.alloc (mapR 4)) = .ok () (w.alloc (mapR 5)) := run_insR w 4 (403, [70, 111, 114, 98, 105, 100, 100, 101, 110]) rfl (by decide +kernel)
  have i5 : (Instr.mapUpdate 61 (.map (some w.heap.size)) (.int .i64 404) (.agg #[.string ⟨#[78, 111, 116, 32, 70, 111, 117, 110, 100]⟩])).run Tryd.prog (w.alloc (mapR 5)) = .ok () (w.alloc (mapR 6)) := run_insR w 5 (404, [78, 111, 116, 32, 70, 111, 117, 110, 100]) rfl (by decide +kernel)
  have i6 : (Instr.mapUpdate 61 (.map (some w.heap.size)) (.int .i64 405) (.agg #[.string ⟨#[77, 101, 116, 104, 111, 100, 32, 78, 111, 116, 32, 65, 108, 108, 111, 119, 101, 100]⟩])).run Tryd.prog (w.alloc (mapR 6)) = .ok () (w.alloc (mapR 7)) := run_insR w 6 (405, [77, 101, 116, 104, 111, 100, 32, 78, 111, 116, 32, 65, 108, 108, 111, 119, 101, 100]) rfl (by decide +kernel)
  have i7 : (Instr.mapUpdate 61 (.map (some w.heap.size)) (.int .i64 409) (.agg #[.string ⟨#[67, 111, 110, 102, 108, 105, 99, 116]⟩])).run Tryd.prog (w.alloc (mapR 7)) = .ok () (w.alloc (mapR 8)) := run_insR w 7 (409, [67, 111, 110, 102, 108, 105, 99, 116]) rfl (by decide +kernel)
  have i8 : (Instr.mapUpdate 61 (.map (some w.heap.size)) (.int .i64 413) (.agg #[.string ⟨#[67, 111, 110, 116, 101, 110, 116, 32, 84, 111, 111, 32, 76, 97, 114, 103, 101]⟩])).run Tryd.prog (w.alloc (mapR 8)) = .ok () (w.alloc (mapR 9)) := run_insR w 8 (413, [67, 111, 110, 116, 101, 110, 116, 32, 84, 111, 111, 32, 76, 97, 114, 103, 101]) rfl (by decide +kernel)
  have i9 : (Instr.mapUpdate 61 (.map (some w.heap.size)) (.int .i64 429) (.agg #[.string ⟨#[84, 111, 111, 32, 77, 97, 110, 121, 32, 82, 101, 113, 117, 101, 115, 116, 115]⟩])).run Tryd.prog (w.alloc (mapR 9)) = .ok () (w.alloc (mapR 10)) := run_insR w 9 (429, [84, 111, 111, 32, 77, 97, 110, 121, 32, 82, 101, 113, 117, 101, 115, 116, 115]) rfl (by decide +kernel)
  have i10 : (Instr.mapUpdate 61 (.map (some w.heap.size)) (.int .i64 431) (.agg #[.string ⟨#[82, 101, 113, 117, 101, 115, 116, 32, 72, 101, 97, 100, 101, 114, 32, 70, 105, 101, 108, 100, 115, 32, 84, 111, 111, 32, 76, 97, 114, 103, 101]⟩])).run Tryd.prog (w.alloc (mapR 10)) = .ok () (w.alloc (mapR 11)) := run_insR w 10 (431, [82, 101, 113, 117, 101, 115, 116, 32, 72, 101, 97, 100, 101, 114, 32, 70, 105, 101, 108, 100, 115, 32, 84, 111, 111, 32, 76, 97, 114, 103, 101]) rfl (by decide +kernel)
  have i11 : (Instr.mapUpdate 61 (.map (some w.heap.size)) (.int .i64 503) (.agg #[.string ⟨#[83, 101, 114, 118, 105, 99, 101, 32, 85, 110, 97, 118, 97, 105, 108, 97, 98, 108, 101]⟩])).run Tryd.prog (w.alloc (mapR 11)) = .ok () (w.alloc (mapR 12)) := run_insR w 11 (503, [83, 101, 114, 118, 105, 99, 101, 32, 85, 110, 97, 118, 97, 105, 108, 97, 98, 108, 101]) rfl (by decide +kernel)
  go_enter Tryd.func30, Tryd.ntmps30
  go_wp2
  go_ret
  exact ⟨rfl, rfl⟩
theorem go_statuses : goFn Tryd.prog 30 = true := by kernel_rfl
theorem run_calledR (R : ByteArray) (w : World) : (Instr.field 60 (.agg #[.string R]) 0).run Tryd.prog w = .ok (.string R) w := by
  simp only [Instr.field]
  go_simp
  simp [asAgg, Result.andThen]
set_option maxRecDepth 8000 in
theorem reason_any (s : Int) (w : World) : Calls Tryd.prog 15 #[.int .i64 s] w fun e w' => e = .returned (.string (strOf (reasonL s))) ∧ Below w.heap.size w w' := by
  have H := hideIt (statuses_any w)
  have hl := run_askR w s
  have hf := fun R => run_calledR R (w.alloc (mapR 12))
  have HB := hideIt (below_new w (mapR 12))
  generalize strOf (reasonL s) = R at *
  go_enter Tryd.func15, Tryd.ntmps15
  go_wp2_with fail
  refine H.out.mono ?_
  rintro e w2 ⟨rfl, rfl⟩
  go_wp2_with fail
  go_ret
  exact ⟨rfl, HB.out⟩
theorem go_reason : goFn Tryd.prog 15 = true := by kernel_rfl
end Go.Proofs.YtolikoediafkkaaDoor
