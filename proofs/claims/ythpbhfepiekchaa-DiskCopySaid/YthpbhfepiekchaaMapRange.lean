/- A range over a map with texts as keys, its iterator in whatever block: what each step hands out, in whatever order. Nothing here speaks of one program. -/
import Derived.Test.YthpbhfepiekchaaMapText
namespace Go.Proofs.Ythpbhfepiekchaa
open Go.MapKept
set_option linter.unusedVariables false
set_option linter.unusedSimpArgs false

/-- the iterator in block r over the map in block m: ls has been handed out, rest has not -/
structure RangeM (w : World) (r m c : Nat) (es : Array MapEntry) (ls rest : List MapEntry) : Prop where
  it : w.heap[r]? = some (.mapIter (some m) c (ls.map (·.born)).toArray c)
  perm : (ls ++ rest).Perm es.toList
theorem RangeM.keep {w w' : World} {r m c : Nat} {es : Array MapEntry} {ls rest : List MapEntry} (h : RangeM w r m c es ls rest) (hk : w'.heap[r]? = w.heap[r]?) : RangeM w' r m c es ls rest := ⟨hk.trans h.it, h.perm⟩
theorem RangeM.lt {w : World} {r m c : Nat} {es : Array MapEntry} {ls rest : List MapEntry} (h : RangeM w r m c es ls rest) : r < w.heap.size := (Array.getElem?_eq_some_iff.1 h.it).1
theorem range_start {w : World} {m c : Nat} {es : Array MapEntry} : RangeM (w.alloc (.mapIter (some m) c #[] c)) w.heap.size m c es [] es.toList := ⟨heap_alloc_new _ _, List.Perm.refl _⟩
section
variable {P : Program} {w : World} {r m c : Nat} {es : Array MapEntry} {ls rest : List MapEntry}
theorem range_next (h : RangeM w r m c es ls rest) (hm : MapT w m es c) (ty : TypeId) :
    (rest = [] ∧ (Instr.next (.pointer (some ⟨r, 0, none⟩)) false ty).run P w = .ok (.tuple #[.bool false]) w) ∨
    ∃ e rest' w', rest.Perm (e :: rest') ∧ (Instr.next (.pointer (some ⟨r, 0, none⟩)) false ty).run P w = .ok (.tuple #[.bool true, e.key, e.val]) w' ∧
      RangeM w' r m c es (ls ++ [e]) rest' ∧ w'.os = w.os ∧ w'.tape = w.tape ∧ w'.output = w.output ∧ w'.heap.size = w.heap.size ∧ (∀ k, k ≠ r → w'.heap[k]? = w.heap[k]?) ∧
      (Instr.entry (.pointer (some ⟨r, 0, none⟩))).run P w' = .ok (.tuple #[e.key, e.val]) w' := by
  have hr := h.it
  have hold := hm.stamp.1
  have hrl := h.lt
  have hb := hm.row
  have hrm : m ≠ r := fun e => by rw [e, hr] at hb; cases hb
  have hnd := hm.stamp.2.1
  have hnd2 : ((ls ++ rest).map (·.born)).Nodup := (h.perm.map _).nodup_iff.2 hnd
  rw [List.map_append, List.nodup_append] at hnd2
  -- what is left
  have hleft : ∀ x, x ∈ (leftOf es (ls.map (·.born)).toArray).toList ↔ x ∈ rest := fun x => by
    unfold leftOf
    simp only [Array.toList_filter, List.mem_filter, Bool.not_eq_true', List.contains_toArray, List.contains_eq_mem, decide_eq_false_iff_not]
    constructor
    · rintro ⟨h1, h2⟩
      rcases List.mem_append.1 (h.perm.mem_iff.2 h1) with h3 | h3
      · exact absurd (List.mem_map.2 ⟨x, h3, rfl⟩) h2
      · exact h3
    · intro h1
      refine ⟨h.perm.mem_iff.1 (List.mem_append.2 (.inr h1)), fun h2 => ?_⟩
      exact hnd2.2.2 _ h2 _ (List.mem_map.2 ⟨x, h1, rfl⟩) rfl
  simp only [Instr.next, getObj, Sem.run_bind, Sem.run, hr, hb, Result.andThen, next_test_false _ es c c hold (Nat.le_refl _), Bool.false_eq_true, if_false]
  have hmem : ∀ x ∈ (Array.filter (fun e => !(ls.map (·.born)).toArray.contains e.born) es).toList, x.born < c := fun x hx => hold x (by
    have := Array.mem_toList_iff.1 hx
    exact Array.mem_toList_iff.2 (Array.mem_filter.1 this).1)
  have hL : ∀ x, x ∈ (Array.filter (fun e => !(ls.map (·.born)).toArray.contains e.born) es).toList ↔ x ∈ rest := hleft
  generalize Array.filter (fun e => !(ls.map (·.born)).toArray.contains e.born) es = L at hmem hL ⊢
  have e1 : L.filter (fun x => decide (x.born < c)) = L := Array.filter_eq_self.2 (fun x hx => by simpa using hmem x (by simpa using hx))
  have e2 : L.filter (fun x => decide (x.born ≥ c)) = #[] := by
    rw [Array.filter_eq_empty_iff]
    intro x hx
    have := hmem x (by simpa using hx)
    simp
    omega
  simp only [e1, e2, Array.append_empty]
  by_cases h0 : L.size = 0
  · left
    have : L = #[] := Array.eq_empty_of_size_eq_zero h0
    subst this
    refine ⟨List.eq_nil_iff_forall_not_mem.2 fun x hx => by simpa using (hL x).2 hx, ?_⟩
    simp [choose, Sem.run, Question.forced]
  · right
    have hne : L.isEmpty = false := by simp [Array.isEmpty, h0]
    simp only [hne, Bool.false_eq_true, if_false, Array.empty_append, Array.size_map]
    have hch : ∃ (j : Nat) (w1 : World), j < L.size ∧ w1.heap = w.heap ∧ w1.os = w.os ∧ w1.tape = w.tape ∧ w1.output = w.output ∧ (choose (Question.mapNext L.size)).run P w = .ok j w1 := by
      by_cases hf : L.size ≤ 1
      · exact ⟨0, w, by omega, rfl, rfl, rfl, rfl, by simp [choose, Sem.run, Question.forced, hf]⟩
      · exact ⟨_, w.drew, Nat.mod_lt _ (by omega), rfl, rfl, rfl, rfl, by
          simp only [choose, Sem.run, Question.forced, decide_eq_true_eq, hf, if_false, Question.cut]
          rfl⟩
    obtain ⟨j, w1, hj, hheap, hos, htape, hout, hrun⟩ := hch
    have hin : L[j] ∈ rest := (hL _).1 (by simp)
    obtain ⟨r1, r2, hsp⟩ := List.append_of_mem hin
    have hw1 : w1.heap[r]? = some (.mapIter (some m) c (ls.map (·.born)).toArray c) := by rw [hheap]; exact hr
    refine ⟨L[j], r1 ++ r2, w1.putObj r (.mapIter (some m) c ((ls.map (·.born)).toArray.push L[j].born) c), ?_, ?_, ⟨?_, ?_⟩, hos, htape, hout, ?_, ?_, ?_⟩
    · rw [hsp]; exact List.perm_middle
    · simp only [hrun, Array.getElem?_map, Array.getElem?_eq_getElem hj, Option.map_some, Sem.run_bind, Result.andThen]
      simp only [setObj, Sem.run, hw1, Result.andThen]
      rfl
    · rw [World.putObj_heap_same (by rw [hheap]; exact hrl)]
      simp
    · refine List.Perm.trans ?_ h.perm
      rw [hsp, List.append_assoc]
      exact List.Perm.append_left _ (List.perm_middle (l₁ := r1)).symm
    · simp [World.putObj, hheap]
    · intro k hk
      rw [World.putObj_heap_other hk, hheap]
    · have hmw : (w1.putObj r (.mapIter (some m) c ((ls.map (·.born)).toArray.push L[j].born) c)).heap[m]? = some (.map es c) := by rw [World.putObj_heap_other hrm, hheap]; exact hb
      have hrw : (w1.putObj r (.mapIter (some m) c ((ls.map (·.born)).toArray.push L[j].born) c)).heap[r]? = some (.mapIter (some m) c ((ls.map (·.born)).toArray.push L[j].born) c) := World.putObj_heap_same (by rw [hheap]; exact hrl)
      have hf : es.find? (·.born == (L[j]).born) = some L[j] := by rw [← Array.find?_toList]; exact find_born _ es.toList hnd (h.perm.mem_iff.1 (List.mem_append.2 (.inr hin)))
      simp only [Instr.entry, getObj, Sem.run_bind, Sem.run, hrw, hmw, Result.andThen, Array.back?_push, bne_self_eq_false, Bool.false_eq_true, if_false, hf]
      rfl
end
end Go.Proofs.Ythpbhfepiekchaa
