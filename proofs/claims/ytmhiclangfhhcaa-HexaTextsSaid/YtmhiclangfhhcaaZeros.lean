/- append(x, make([]byte, m)...) onto a row of the call's own: noughts behind it. -/
import Derived.Test.YtmhiclangfhhcaaBase
import Derived.Lib.AppendZeros
namespace Go.Proofs.Ytmhiclangfhhcaa
open Go.ChangeShapes Go.WideShapes Go.ChangeAt Go.RowKit
set_option linter.unusedVariables false
set_option linter.unusedSimpArgs false

theorem zeroCells_u8 (m : Nat) : Builtin.zeroCells (Value.int .u8 0).cells m = (cellsOf (List.replicate m 0)).toArray := by
  have e : (Value.int .u8 0).cells = #[Value.int .u8 0] := rfl
  rw [e]
  apply Array.ext'
  simp only [Builtin.zeroCells, cellsOf, List.map_replicate]
  refine List.ext_getElem (by simp) fun i h1 h2 => ?_
  simp [Nat.mod_one]
set_option maxHeartbeats 1000000 in
theorem run_app0 (w : World) (ty : TypeId) (base : Nat) (v : Value) (n : Nat) (xs : List UInt8) (hown : w.ownsRow base 5 1 v n (cellsOf xs)) (m : Nat) (hm : n + m ≤ 1000000) (hbase : base ≤ w.heap.size) :
    ∃ v' w', (Builtin.append_ #[22, 3] ty #[v, .int .i64 (m : Int)]).run Try.prog w = .ok v' w' ∧ w'.ownsRow base 5 1 v' (n + m) (cellsOf (xs ++ List.replicate m 0)) ∧ w.grownBy w' v.ownBlock := by
  obtain ⟨i0, hi, hz0, hz1, hz2⟩ := info_parts info_u8
  have ht : Try.prog.underlying 22 = some (.slice 5) := Try.underlying22
  have hti : Try.prog.underlying 3 = some (.int .i64) := Try.underlying3
  have hw : IntKind.i64.wrap (m : Int) = m := by rw [IntKind.wrap_i64]; omega
  have hneg : ¬ ((m : Int) < 0) := by omega
  have hw0 : IntKind.i64.wrap 0 = 0 := by decide
  have hxl : xs.length = n := by have := hown.1; rwa [cellsOf_length, Nat.mul_one] at this
  have hlen : (cellsOf (xs ++ List.replicate m 0)).length = (n + m) * 1 := by simp [cellsOf_length, hxl]
  have h48i : ¬ (281474976710656 < (m : Int)) := by omega
  have grown : ∀ (old : Nat), old < n + m → ∀ (row : Option Nat),
      (w.drew.alloc (.cells ((cellsOf xs).toArray ++ (cellsOf (List.replicate m 0)).toArray ++ Builtin.zeroCells (Value.int .u8 0).cells (grownCap w (n + m) old 5 - (n + m))) 5)).ownsRow base 5 1
        (.slice (some ⟨w.heap.size, 0, none⟩) (n + m) (grownCap w (n + m) old 5)) (n + m) (cellsOf (xs ++ List.replicate m 0)) ∧
      w.grownBy (w.drew.alloc (.cells ((cellsOf xs).toArray ++ (cellsOf (List.replicate m 0)).toArray ++ Builtin.zeroCells (Value.int .u8 0).cells (grownCap w (n + m) old 5 - (n + m))) 5)) row := by
    intro old ho row
    have hge := grownCap_ge w (n + m) old 5
    have hcm : grownCap w (n + m) old 5 ≤ maxLen := grownCap_le_maxLen w (n + m) old 5 (by unfold maxLen; omega)
    refine ⟨⟨hlen, .inr ⟨w.heap.size, _, _, rfl, hbase, heap_alloc_new w.drew _, hge, hcm, ?_, ?_⟩⟩, ⟨rfl, rfl, rfl, by simp, fun k hk _ => Below.heap_alloc w.drew _ k hk⟩⟩
    · rw [zeroCells_u8]
      simp only [Array.size_append, List.size_toArray, cellsOf_length, List.length_replicate, hxl]
      omega
    · rw [zeroCells_u8]
      simp only [Array.toList_append, List.append_assoc]
      rw [← List.append_assoc, ← cellsOf_append, ← hlen]
      exact List.take_left
  have hzero : ∀ W : World, (zeroValue 5).run Try.prog W = .ok (.int .u8 0) W := fun W => by simp [zeroValue, typeInfo, hi, hz0]
  rcases hown.2 with ⟨rfl, rfl⟩ | ⟨g, cap, cur, rfl, hbg, hg, hnc, hcm, hcs, htake⟩
  · obtain rfl : xs = [] := List.eq_nil_of_length_eq_zero hxl
    by_cases h0 : m = 0
    · subst h0
      refine ⟨.slice none 0 0, w, ?_, World.ownsRow_nil w base 5 1, ⟨rfl, rfl, rfl, Nat.le_refl _, fun _ _ _ => rfl⟩⟩
      simp [Builtin.append_, run_underlying ht, run_underlying hti, sizeOf, typeInfo, hi, asInt, asIntOf, hw0]
    · have hr := Go.Lib.run_append_nil_zeros (P := Try.prog) w 22 3 ty 5 i0 (.int .u8 0) .i64 .i64 ht hti hi hz0 m (by omega) (by omega) (by omega) (by rw [hz2]; omega)
      have hgr := grown 0 (by omega) (Value.ownBlock (.slice none 0 0))
      rw [Nat.zero_add] at hgr
      rw [Nat.zero_add]
      rw [zeroCells_u8 m] at hr
      have e0 : (cellsOf []).toArray ++ (cellsOf (List.replicate m 0)).toArray = (cellsOf (List.replicate m 0)).toArray := by simp [cellsOf]
      rw [e0] at hgr
      exact ⟨_, _, hr, hgr.1, hgr.2⟩
  · by_cases hroom : n + m ≤ cap
    · have hfit : n + (cellsOf (List.replicate m 0)).length ≤ cur.size := by rw [cellsOf_length, List.length_replicate, hcs]; omega
      have h1 : ∀ u ∈ cellsOf (List.replicate m 0), u.oneCell' = true := by
        intro u hu
        obtain ⟨b, _, rfl⟩ := List.mem_map.1 hu
        rfl
      have hst := run_storeCells_at Try.prog g n 5 (cellsOf (List.replicate m 0)) 0 cur w hg (by simpa using hfit) h1
      simp only [Nat.add_zero] at hst
      by_cases h0 : m = 0
      · subst h0
        refine ⟨.slice (some ⟨g, 0, none⟩) n cap, w, ?_, by simpa using hown, ⟨rfl, rfl, rfl, Nat.le_refl _, fun _ _ _ => rfl⟩⟩
        have hnc' : n ≤ cap := hnc
        simp [Builtin.append_, run_underlying ht, run_underlying hti, sizeOf, typeInfo, hi, asInt, asIntOf, hw0, hnc', storeCells]
      · have hns : ¬ m * 1 = 0 := by omega
        refine ⟨.slice (some ⟨g, 0, none⟩) (n + m) cap, w.setRow g (cur.toList.take n ++ cellsOf (List.replicate m 0) ++ cur.toList.drop (n + (cellsOf (List.replicate m 0)).length)).toArray, ?_, ⟨hlen, .inr ⟨g, cap, _, rfl, hbg, setRow_heap w g cur _ 5 _ hg, hroom, hcm, ?_, ?_⟩⟩, ⟨rfl, rfl, rfl, by simp, fun k _ hk => setRow_other w g k _ (fun e => hk (by simp [Value.ownBlock, e]))⟩⟩
        · have hst' : (storeCells ⟨g, n, none⟩ (cellsOf (List.replicate m 0))).run Try.prog w = .ok () (w.setRow g (cur.toList.take n ++ cellsOf (List.replicate m 0) ++ cur.toList.drop (n + (cellsOf (List.replicate m 0)).length)).toArray) := by simpa using hst
          simp only [Builtin.append_, Sem.run_bind, Sem.run_pure, Result.andThen_ok, run_underlying ht, run_underlying hti, sizeOf, typeInfo, hi, asInt, asIntOf, hw, hneg, hzero, hz1, hz2]
          simp [hi, hz1, hz2, hw, hneg, h48i, h0, hroom, hzero, zeroCells_u8, Addr.add_lit, hst', asInt, asIntOf, run_underlying hti, typeInfo]
        · simp only [List.size_toArray, List.length_append, List.length_take, List.length_drop, Array.length_toList, cellsOf_length, List.length_replicate]
          omega
        · have e1 : cur.toList.take n = cellsOf xs := by rw [← htake, Nat.mul_one]
          rw [e1, ← cellsOf_append, ← hlen]
          exact List.take_left
    · have holds : ∀ j u, (cellsOf xs)[j]? = some u → w.cell? ((⟨g, 0, none⟩ : Addr).add j) = some u := hown.cells (g := g) rfl
      have hfo := run_firstCells_some (P := Try.prog) w.drew 1 n ⟨g, 0, none⟩ n cap (cellsOf xs) (by rw [cellsOf_length, hxl, Nat.mul_one]) (by simpa using holds)
      have hfit := growslice_fits (need := n + m) (old := cap) (bytes := 1) (by omega) (by omega)
      have h48' : ¬ (281474976710656 < Builtin.nextslicecap (n + m) cap) := by omega
      have h63' : ¬ (9223372036854775807 < ((n : Int) + (m : Int))) := by omega
      have h0 : ¬ m = 0 := by omega
      have hgr := grown cap (by omega) (Value.ownBlock (.slice (some ⟨g, 0, none⟩) n cap))
      refine ⟨_, _, ?_, hgr.1, hgr.2⟩
      simp only [Builtin.append_, Sem.run_bind, Sem.run_pure, Result.andThen_ok, run_underlying ht, run_underlying hti, sizeOf, typeInfo, hi, asInt, asIntOf, hw, hneg, hzero, hz1, hz2]
      simp [hi, hz0, hz1, hz2, hw, hneg, h48i, h48', h63', h0, hroom, hzero, zeroCells_u8, hfo, newRow, grownCap, Question.forced, asInt, asIntOf, run_underlying hti, typeInfo]
/-- .. at the operation -/
theorem wpList_app0 {w : World} {ops : Array Oper} {rest : List Oper} {o : Oper} {a : Act} {Q : Exit → Act → World → Prop} (hgd : o.guard = none) (s x : Operand)
    (ho : o.op = .call { callee := .builtin .append, args := #[s, x], argTypes := #[22, 3] })
    (base : Nat) (v : Value) (n : Nat) (xs : List UInt8) (hs : a.eval s = v) (hown : w.ownsRow base 5 1 v n (cellsOf xs)) (m : Nat) (hx : a.eval x = .int .i64 (m : Int)) (hm : n + m ≤ 1000000) (hbase : base ≤ w.heap.size)
    (h : ∀ v' w', w'.ownsRow base 5 1 v' (n + m) (cellsOf (xs ++ List.replicate m 0)) → w.grownBy w' v.ownBlock → wpList Try.prog ops Q rest (a.put o.dst v') w') : wpList Try.prog ops Q (o :: rest) a w := by
  obtain ⟨v', w', hr, h1, h2⟩ := run_app0 w o.type base v n xs hown m hm hbase
  exact Go.Lib.wpList_append_run w hgd s x _ _ ho v _ hs hx v' w' hr (h v' w' h1 h2)
end Go.Proofs.Ytmhiclangfhhcaa
