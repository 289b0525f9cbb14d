/- A row of bytes of the call's own that a text was turned to: what is behind its room is shut, and appends go on as with any own row. -/
import Derived.Test.YtbojigimldfghaaDoorByteRow
import Derived.Lib.FrozenHead2
namespace Go.Proofs.YtbojigimldfghaaDoor
open Go.ChangeShapes Go.WideShapes Go.ChangeAt Go.RowKit
set_option linter.unusedVariables false
set_option linter.unusedSimpArgs false

/-- an own row of bytes; nothing of its room is shut -/
def MRow (base : Nat) (v : Value) (bs : List UInt8) (w : World) : Prop :=
  ∃ g cap cur fz, v = .slice (some ⟨g, 0, none⟩) bs.length cap ∧ base ≤ g ∧ w.heap[g]? = some (.cells cur 5 fz) ∧ (cur.size ≤ fz.1 ∨ fz.2 = 0) ∧ bs.length ≤ cap ∧ cap ≤ maxLen ∧ cur.size = cap ∧ cur.toList.take bs.length = cellsOf bs
theorem MRow.open {base : Nat} {v : Value} {bs : List UInt8} {w : World} (h : MRow base v bs w) (hl : bs.length ≤ 140737488355328) : ∃ g c, v = .slice (some ⟨g, 0, none⟩) bs.length c ∧ base ≤ g ∧ g < w.heap.size ∧ PieceOk w ⟨some ⟨g, 0, none⟩, c, bs⟩ := by
  obtain ⟨g, cap, cur, fz, rfl, hb, hg, hz, hn, hm, hs, ht⟩ := h
  have hlt := (Array.getElem?_eq_some_iff.1 hg).1
  have hm' : cap ≤ 9223372036854775807 := hm
  refine ⟨g, cap, rfl, hb, hlt, ⟨fun hn0 => ⟨g, 0, rfl, hlt, fun j hj => ?_⟩, hn, hm', hl, fun e => by cases e⟩⟩
  rw [Nat.zero_add, cell_of_row w g j cur _ fz hg, ← Array.getElem?_toList]
  have h1 : (cur.toList.take bs.length)[j]? = cur.toList[j]? := by rw [List.getElem?_take, if_pos hj]
  rw [← h1, ht, cellsOf_at bs j hj]
theorem MRow.keep {base : Nat} {v : Value} {bs : List UInt8} {w w' : World} (h : MRow base v bs w) (hb : Below w.heap.size w w') : MRow base v bs w' := by
  obtain ⟨g, cap, cur, fz, e, h1, hg, rest⟩ := h
  exact ⟨g, cap, cur, fz, e, h1, (hb.block g (Array.getElem?_eq_some_iff.1 hg).1).trans hg, rest⟩
theorem MRow.base {base base' : Nat} {v : Value} {bs : List UInt8} {w : World} (h : MRow base v bs w) (hb : base' ≤ base) : MRow base' v bs w := by
  obtain ⟨g, cap, cur, fz, e, h1, rest⟩ := h
  exact ⟨g, cap, cur, fz, e, by omega, rest⟩
theorem MRow.lt {base : Nat} {v : Value} {bs : List UInt8} {w : World} (h : MRow base v bs w) : ∀ k, v.ownBlock = some k → base ≤ k ∧ k < w.heap.size := by
  obtain ⟨g, cap, cur, fz, rfl, h1, hg, rest⟩ := h
  intro k hk
  simp [Value.ownBlock] at hk
  subst hk
  exact ⟨h1, (Array.getElem?_eq_some_iff.1 hg).1⟩
theorem conv_marked (w : World) (bs : List UInt8) (hl : bs.length ≤ 1000000) : ∃ v w', (convert 9 22 (.string (strOf bs))).run Tryd.prog w = .ok v w' ∧ MRow w.heap.size v bs w' ∧ Below w.heap.size w w' := by
  have hr := run_bytes_of_string (P := Tryd.prog) w 9 22 5 (strOf bs) Tryd.underlying9 Tryd.underlying22 Tryd.underlying5
  have hsz := strOf_size bs
  rw [hsz] at hr
  have h1 := grownCap_ge w bs.length 0 5
  have h2 : grownCap w bs.length 0 5 ≤ maxLen := grownCap_le_maxLen w bs.length 0 5 (by unfold maxLen; omega)
  generalize grownCap w bs.length 0 5 = c at *
  have e : (bytesRow (strOf bs) c).toList = cellsOf bs ++ List.replicate (c - bs.length) (.int .u8 0) := by
    simp [bytesRow, strOf, cellsOf, ByteArray.size]
  refine ⟨_, _, hr, ⟨_, c, _, _, rfl, Nat.le_refl _, heap_alloc_new w.drew _, .inl (Nat.le_refl _), h1, h2, ?_, ?_⟩, below_one (Below.refl _ _).drew _⟩
  · rw [← Array.length_toList, e, List.length_append, cellsOf_length, List.length_replicate]; omega
  · rw [e]
    have : bs.length = (cellsOf bs).length := (cellsOf_length bs).symm
    rw [this]
    exact List.take_left
/-- cells that are stored in a row whose shut part begins behind it -/
theorem store_marked (P : Program) (g : Nat) (t : TypeId) (fz : Nat × Nat) : ∀ (vs : List Value) (n i : Nat) (cur : Array Value) (w : World), w.heap[g]? = some (.cells cur t fz) → (cur.size ≤ fz.1 ∨ fz.2 = 0) → n + i + vs.length ≤ cur.size → (∀ v ∈ vs, v.oneCell' = true) →
    (storeCells ⟨g, n, none⟩ vs i).run P w = .ok () (w.setRow g (cur.toList.take (n + i) ++ vs ++ cur.toList.drop (n + i + vs.length)).toArray)
  | [], n, i, cur, w, hg, _, _, _ => by
    simp only [storeCells, List.append_nil, List.length_nil, Nat.add_zero, List.take_append_drop, Array.toArray_toList]
    rw [setRow_self w g cur t fz hg]
    rfl
  | v :: rest, n, i, cur, w, hg, hz, hl, h1 => by
    have hl' : n + i + (rest.length + 1) ≤ cur.size := hl
    have hi : n + i < cur.size := by omega
    have hadd : (⟨g, n, none⟩ : Addr).add i = ⟨g, n + i, none⟩ := Go.WideShapes.add_plain _ _ _
    have hcell : w.cell? ⟨g, n + i, none⟩ = some cur[n + i] := by rw [cell_of_row w g _ cur t fz hg]; simp [hi]
    have hfro : w.frozen? ⟨g, n + i, none⟩ = false := by
      simp only [World.frozen?, hg, Bool.and_eq_false_iff, decide_eq_false_iff_not]
      rcases hz with hz | hz
      · left; omega
      · right; omega
    have hst : (store ((⟨g, n, none⟩ : Addr).add i) v).run P w = .ok () (w.setRow g (cur.setIfInBounds (n + i) v)) := by
      rw [hadd, run_store P w _ v _ (h1 v (by simp)), hcell]
      simp [hfro, setCell_eq_setRow w g (n + i) cur t fz v hg]
    have ih := store_marked P g t fz rest n (i + 1) (cur.setIfInBounds (n + i) v) (w.setRow g (cur.setIfInBounds (n + i) v)) (setRow_heap w g cur _ t _ hg) (by simpa using hz) (by rw [Array.size_setIfInBounds]; omega) (fun x hx => h1 x (by simp [hx]))
    simp only [storeCells, Sem.run_bind, hst, Result.andThen_ok, ih, setRow_setRow]
    have e := list_seg_step cur.toList (n + i) v rest (by rw [Array.length_toList]; exact hl')
    congr 3
    simpa [Array.toList_setIfInBounds, Nat.add_assoc] using e
theorem marked_room {base g cap : Nat} {cur : Array Value} {fz : Nat × Nat} {bs cs : List UInt8} {w : World} (hb : base ≤ g) (hg : w.heap[g]? = some (.cells cur 5 fz)) (hz : cur.size ≤ fz.1 ∨ fz.2 = 0) (hm : cap ≤ maxLen) (hs : cur.size = cap) (ht : cur.toList.take bs.length = cellsOf bs) (hr : bs.length + cs.length ≤ cap) :
    MRow base (.slice (some ⟨g, 0, none⟩) (bs ++ cs).length cap) (bs ++ cs) (w.setRow g (cur.toList.take bs.length ++ cellsOf cs ++ cur.toList.drop (bs.length + cs.length)).toArray) := by
  have hsz : (cur.toList.take bs.length ++ cellsOf cs ++ cur.toList.drop (bs.length + cs.length)).toArray.size = cur.size := by
    simp only [List.size_toArray, List.length_append, List.length_take, List.length_drop, Array.length_toList, cellsOf_length]
    omega
  refine ⟨g, cap, _, fz, rfl, hb, setRow_heap w g cur _ _ _ hg, by rw [hsz]; exact hz, by rw [List.length_append]; exact hr, hm, by rw [hsz, hs], ?_⟩
  rw [ht, cellsOf_append, ← cellsOf_append]
  have : (bs ++ cs).length = (cellsOf (bs ++ cs)).length := (cellsOf_length _).symm
  rw [this]
  exact List.take_left
theorem setRow_grown (w : World) (g : Nat) (cs : Array Value) (n c : Nat) : w.grownBy (w.setRow g cs) (Value.slice (some ⟨g, 0, none⟩) n c).ownBlock :=
  ⟨rfl, rfl, rfl, by simp, fun k _ hk => setRow_other w g k _ (fun e => hk (by simp [Value.ownBlock, e]))⟩
theorem marked_fresh {base : Nat} {bs : List UInt8} {w : World} (cap : Nat) (hb : base ≤ w.heap.size) (hl : bs.length ≤ 140737488355328) (vs : Array Value) (h1 : vs.size = grownCap w bs.length cap 5) (h2 : vs.toList.take bs.length = cellsOf bs) :
    MRow base (.slice (some ⟨w.heap.size, 0, none⟩) bs.length (grownCap w bs.length cap 5)) bs (w.drew.alloc (.cells vs 5)) :=
  ⟨w.heap.size, _, vs, (0, 0), rfl, hb, heap_alloc_new w.drew _, .inr rfl, grownCap_ge w bs.length cap 5, grownCap_le_maxLen w bs.length cap 5 (by unfold maxLen; omega), h1, h2⟩
theorem grown_cells (w : World) (xs bs : List UInt8) (cap : Nat) :
    ((cellsOf xs).toArray ++ (cellsOf bs).toArray ++ Builtin.zeroCells (Value.int .u8 0).cells (grownCap w (xs ++ bs).length cap 5 - (xs ++ bs).length)).size = grownCap w (xs ++ bs).length cap 5 ∧
    ((cellsOf xs).toArray ++ (cellsOf bs).toArray ++ Builtin.zeroCells (Value.int .u8 0).cells (grownCap w (xs ++ bs).length cap 5 - (xs ++ bs).length)).toList.take (xs ++ bs).length = cellsOf (xs ++ bs) := by
  have hge := grownCap_ge w (xs ++ bs).length cap 5
  have hz1 : (Value.int IntKind.u8 0).cells.size = 1 := rfl
  constructor
  · simp only [Array.size_append, List.size_toArray, size_zeroCells, hz1, cellsOf_length]
    rw [List.length_append] at hge ⊢
    omega
  · simp only [Array.toList_append, List.append_assoc]
    rw [← List.append_assoc, ← cellsOf_append]
    have : (xs ++ bs).length = (cellsOf (xs ++ bs)).length := (cellsOf_length _).symm
    rw [this]
    exact List.take_left
theorem MRow.cells {base g c : Nat} {bs : List UInt8} {w : World} (h : MRow base (.slice (some ⟨g, 0, none⟩) bs.length c) bs w) : ∀ j u, (cellsOf bs)[j]? = some u → w.cell? ((⟨g, 0, none⟩ : Addr).add j) = some u := by
  obtain ⟨g', cap, cur, fz, e, h1, hg, _, _, _, _, ht⟩ := h
  intro j u hu
  simp only [Value.slice.injEq, Option.some.injEq, Addr.mk.injEq, and_true, true_and] at e
  obtain ⟨rfl, rfl⟩ := e
  rw [Go.WideShapes.add_plain, Nat.zero_add, cell_of_row w g j cur _ fz hg, ← Array.getElem?_toList]
  rw [← ht, List.getElem?_take] at hu
  split at hu
  · exact hu
  · cases hu
/-- append of a text -/
theorem wpList_appMS {w : World} {ops : Array Oper} {rest : List Oper} {o : Oper} {a : Act} {Q : Exit → Act → World → Prop} (hgd : o.guard = none) (s x : Operand)
    (ho : o.op = .call { callee := .builtin .append, args := #[s, x], argTypes := #[22, 9] })
    (base : Nat) (v : Value) (xs bs : List UInt8) (hs : a.eval s = v) (hown : MRow base v xs w) (hx : a.eval x = .string (strOf bs))
    (hlen : xs.length + bs.length ≤ 140737488355328) (hbase : base ≤ w.heap.size)
    (h : ∀ v' w', MRow base v' (xs ++ bs) w' → w.grownBy w' v.ownBlock → wpList Tryd.prog ops Q rest (a.put o.dst v') w') : wpList Tryd.prog ops Q (o :: rest) a w := by
  obtain ⟨i0, hi, hz0, hz1, hz2⟩ := info_parts info_u8
  refine wpList_plain hgd fun K hK => ?_
  have main : ∃ v' w', (Builtin.append_ #[22, 9] o.type #[v, .string (strOf bs)]).run Tryd.prog w = .ok v' w' ∧ MRow base v' (xs ++ bs) w' ∧ w.grownBy w' v.ownBlock := by
    have hown' := hown
    obtain ⟨g, cap, cur, fz, rfl, hb, hg, hz, hn, hm, hsz, ht⟩ := hown'
    have hss := strOf_size bs
    have hsc : Lib.strCells (strOf bs) = cellsOf bs := rfl
    by_cases hroom : xs.length + bs.length ≤ cap
    · refine ⟨_, _, ?_, marked_room hb hg hz hm hsz ht hroom, setRow_grown w g _ _ _⟩
      have hf := Lib.run_firstCells_string (P := Tryd.prog) w 1 (strOf bs)
      have hst := store_marked Tryd.prog g 5 fz (cellsOf bs) xs.length 0 cur w hg hz (by rw [cellsOf_length]; omega) (fun u hu => by obtain ⟨b, _, rfl⟩ := List.mem_map.1 hu; rfl)
      rw [hsc, hss] at hf
      simp only [Nat.add_zero, cellsOf_length] at hst
      rw [List.length_append]
      have hroom' : xs.length + (strOf bs).size ≤ cap := by rw [hss]; exact hroom
      simp [Builtin.append_, run_underlying Tryd.underlying22, run_underlying Tryd.underlying9, sizeOf, typeInfo, hi, hz1, Builtin.lenOf, hroom', hss, hroom, hf, Addr.add_lit, hst]
    · have hr := Lib.run_append_grow_string (P := Tryd.prog) w 22 9 o.type 5 i0 (.int .u8 0) Tryd.underlying22 Tryd.underlying9 hi hz0 ⟨g, 0, none⟩ xs.length cap (cellsOf xs) (by rw [hz1, cellsOf_length]; simp) hown.cells (strOf bs) (by rw [hss]; omega) (by rw [hss]; omega) (by rw [hz2, hss]; exact growslice_fits (by omega) (by omega))
      rw [hss, hsc] at hr
      refine ⟨_, _, hr, ?_, ⟨rfl, rfl, rfl, by simp, fun k hk _ => heap_alloc_old w.drew _ hk⟩⟩
      rw [← List.length_append]
      exact marked_fresh cap hbase (by rw [List.length_append]; exact hlen) _ (grown_cells w xs bs cap).1 (grown_cells w xs bs cap).2
  obtain ⟨v', w', hr, h2, h3⟩ := main
  unfold Oper.wp execOp
  simp only [ho, resolve, invoke, builtin, Sem.run_bind, Sem.run_pure, Result.andThen_ok, List.map_toArray, List.map_cons, List.map_nil, hs, hx, hr]
  exact hK _ _ (h v' w' h2 h3)
/-- append of bytes -/
theorem wpList_appMB {w : World} {ops : Array Oper} {rest : List Oper} {o : Oper} {a : Act} {Q : Exit → Act → World → Prop} (hgd : o.guard = none) (s x : Operand)
    (ho : o.op = .call { callee := .builtin .append, args := #[s, x], argTypes := #[22, 22] })
    (base : Nat) (v : Value) (xs bs : List UInt8) (hs : a.eval s = v) (hown : MRow base v xs w) (A : Option Addr) (m c B : Nat) (hx : a.eval x = .slice A m c) (hm' : bs.length = m) (hnil : A = none → c = 0) (hbs : BytesAt w B A bs)
    (hlen : xs.length + bs.length ≤ 140737488355328) (hbase : base ≤ w.heap.size)
    (h : ∀ v' w', MRow base v' (xs ++ bs) w' → w.grownBy w' v.ownBlock → wpList Tryd.prog ops Q rest (a.put o.dst v') w') : wpList Tryd.prog ops Q (o :: rest) a w := by
  obtain ⟨i0, hi, hz0, hz1, hz2⟩ := info_parts info_u8
  subst hm'
  refine wpList_plain hgd fun K hK => ?_
  have main : ∃ v' w', (Builtin.append_ #[22, 22] o.type #[v, .slice A bs.length c]).run Tryd.prog w = .ok v' w' ∧ MRow base v' (xs ++ bs) w' ∧ w.grownBy w' v.ownBlock := by
    rcases A with _ | ad
    · obtain rfl := hnil rfl
      have hb0 : bs = [] := by
        rcases Nat.eq_zero_or_pos bs.length with h0 | h0
        · exact List.eq_nil_of_length_eq_zero h0
        · obtain ⟨_, _, hh, _⟩ := hbs h0
          cases hh
      subst hb0
      have hown' := hown
      obtain ⟨g, cap, cur, fz, rfl, hb, hg, hz, hn, hm, hsz, ht⟩ := hown'
      refine ⟨.slice (some ⟨g, 0, none⟩) xs.length cap, w, ?_, by simpa using hown, ⟨rfl, rfl, rfl, Nat.le_refl _, fun _ _ _ => rfl⟩⟩
      simp [Builtin.append_, run_underlying Tryd.underlying22, sizeOf, typeInfo, hi, Builtin.lenOf, hn, Builtin.firstCells, storeCells]
    · have hown' := hown
      obtain ⟨g, cap, cur, fz, rfl, hb, hg, hz, hn, hm, hsz, ht⟩ := hown'
      have hnews : ∀ j u, (cellsOf bs)[j]? = some u → w.cell? (ad.add j) = some u := by
        intro j u hu
        have hj : j < bs.length := by
          rcases Nat.lt_or_ge j bs.length with hh | hh
          · exact hh
          · rw [List.getElem?_eq_none (by rw [cellsOf_length]; exact hh)] at hu; cases hu
        obtain ⟨b, off, he, _, hc⟩ := hbs (by omega)
        obtain rfl := Option.some.inj he
        rw [cellsOf_at bs j hj] at hu
        rw [Go.WideShapes.add_plain, hc j hj, hu]
      have hone : ∀ u ∈ cellsOf bs, u.oneCell' = true := fun u hu => by obtain ⟨b, _, rfl⟩ := List.mem_map.1 hu; rfl
      by_cases hroom : xs.length + bs.length ≤ cap
      · refine ⟨_, _, ?_, marked_room hb hg hz hm hsz ht hroom, setRow_grown w g _ _ _⟩
        have hf := run_firstCells_some (P := Tryd.prog) w 1 bs.length ad bs.length c (cellsOf bs) (by rw [cellsOf_length, Nat.mul_one]) hnews
        have hst := store_marked Tryd.prog g 5 fz (cellsOf bs) xs.length 0 cur w hg hz (by rw [cellsOf_length]; omega) hone
        simp only [Nat.add_zero, cellsOf_length] at hst
        rw [List.length_append]
        simp [Builtin.append_, run_underlying Tryd.underlying22, sizeOf, typeInfo, hi, hz1, Builtin.lenOf, hroom, hf, Addr.add_lit, hst]
      · have hr := run_append_grow (P := Tryd.prog) w 22 o.type 5 i0 (.int .u8 0) Tryd.underlying22 hi hz0 ⟨g, 0, none⟩ xs.length cap (cellsOf xs) (by rw [hz1, cellsOf_length]; simp) hown.cells ad bs.length c (cellsOf bs) (by rw [hz1, cellsOf_length]; simp) hnews (by omega) (by omega) (by rw [hz2]; exact growslice_fits (by omega) (by omega))
        refine ⟨_, _, hr, ?_, ⟨rfl, rfl, rfl, by simp, fun k hk _ => heap_alloc_old w.drew _ hk⟩⟩
        rw [← List.length_append]
        exact marked_fresh cap hbase (by rw [List.length_append]; exact hlen) _ (grown_cells w xs bs cap).1 (grown_cells w xs bs cap).2
  obtain ⟨v', w', hr, h2, h3⟩ := main
  unfold Oper.wp execOp
  simp only [ho, resolve, invoke, builtin, Sem.run_bind, Sem.run_pure, Result.andThen_ok, List.map_toArray, List.map_cons, List.map_nil, hs, hx, hr]
  exact hK _ _ (h v' w' h2 h3)
end Go.Proofs.YtbojigimldfghaaDoor
