/- The contract of the reference's Make: a message that was not made. -/
import Derived.Test.YtigocnaminkodaaDoorRefOld
namespace Go.Proofs.YtigocnaminkodaaDoor
open Go.ChangeShapes Go.WideShapes Go.ChangeAt Go.RowKit
set_option linter.unusedVariables false
set_option linter.unusedSimpArgs false


theorem info_str : (Tryd.prog.info? 9).map (fun i => (i.zero, i.size, i.bytes)) = some (some (.string (strOf [])), 1, 16) := by kernel_rfl
theorem info_row : (Tryd.prog.info? 22).map (fun i => (i.zero, i.size, i.bytes)) = some (some (.slice none 0 0), 1, 24) := by kernel_rfl
theorem RowAt.cells {w : World} {B : Nat} {A : Addr} {vs : List Value} (h : RowAt w B (some A) vs) : ∀ j u, vs[j]? = some u → w.cell? (A.add j) = some u := by
  intro j u hu
  obtain ⟨hj, rfl⟩ := List.getElem?_eq_some_iff.1 hu
  obtain ⟨q, off, he, _, _, hc⟩ := h (by omega)
  cases he
  rw [Go.WideShapes.add_plain, hc j hj]
/-- append of whatever row of one-cell elements onto a row of the call's own -/
theorem wpList_appV {w : World} {ops : Array Oper} {rest : List Oper} {o : Oper} {a : Act} {Q : Exit → Act → World → Prop} (hgd : o.guard = none) (s x : Operand) (t e : TypeId) (z : Value) (by_ : Nat)
    (ho : o.op = .call { callee := .builtin .append, args := #[s, x], argTypes := #[t, t] }) (ht : Tryd.prog.underlying t = some (.slice e)) (hinfo : (Tryd.prog.info? e).map (fun i => (i.zero, i.size, i.bytes)) = some (some z, 1, by_)) (hz : z.cells.size = 1) (hby : by_ ≤ 24)
    (base : Nat) (v : Value) (n : Nat) (xs : List Value) (hs : a.eval s = v) (hown : w.ownsRow base e 1 v n xs)
    (A : Option Addr) (m c B : Nat) (vs : List Value) (hx : a.eval x = .slice A m c) (hm : vs.length = m) (hnil : A = none → c = 0) (hb : RowAt w B A vs) (h1 : ∀ u ∈ vs, u.oneCell' = true)
    (hlen : n + m ≤ 1000000) (hbase : base ≤ w.heap.size) (k : Nat) (hk : n + m = k) (ys : List Value) (hys : xs ++ vs = ys)
    (h : ∀ v' w', w'.ownsRow base e 1 v' k ys → w.grownBy w' v.ownBlock → wpList Tryd.prog ops Q rest (a.put o.dst v') w') : wpList Tryd.prog ops Q (o :: rest) a w := by
  obtain ⟨i0, hi, hz0, hz1, hz2⟩ := info_parts hinfo
  subst hm hk hys
  rcases A with _ | ad
  · obtain rfl := hnil rfl
    have hvs : vs = [] := by
      rcases Nat.eq_zero_or_pos vs.length with h0 | h0
      · exact List.eq_nil_of_length_eq_zero h0
      · obtain ⟨_, _, hh, _⟩ := hb h0
        cases hh
    subst hvs
    refine wpList_append_own_none hgd s x t ho base e i0 1 ht hi v n _ hs hown hx ?_
    exact h v w (by simpa using hown) ⟨rfl, rfl, rfl, Nat.le_refl _, fun _ _ _ => rfl⟩
  · have hmul : (n + vs.length) * by_ ≤ 1000000 * 24 := Nat.mul_le_mul hlen hby
    refine wpList_append_own w hgd s x t ho base e i0 z 1 by_ ht hi hz0 hz1 hz2 hz (by decide) v n _ hs hown ad vs.length c vs hx (by rw [Nat.mul_one]) hb.cells h1 (by unfold maxLen; omega) (by omega) hbase ?_
    intro v' w' h1 h2 _
    exact h v' w' h1 h2
/-- append of bytes onto a full row -/
theorem wpList_appFull {w : World} {ops : Array Oper} {rest : List Oper} {o : Oper} {a : Act} {Q : Exit → Act → World → Prop} (hgd : o.guard = none) (s x : Operand)
    (ho : o.op = .call { callee := .builtin .append, args := #[s, x], argTypes := #[22, 22] })
    (A0 : Option Addr) (xs : List UInt8) (n : Nat) (hs : a.eval s = .slice A0 n n) (hp : PieceOk w ⟨A0, n, xs⟩) (hn : xs.length = n)
    (A : Option Addr) (m c : Nat) (bs : List UInt8) (hx : a.eval x = .slice A m c) (hq : PieceOk w ⟨A, c, bs⟩) (hm : bs.length = m) (h0 : 0 < m) (hlen : n + m ≤ 1000000)
    (h : ∀ v' w', w'.ownsRow w.heap.size 5 1 v' (n + m) (cellsOf (xs ++ bs)) → w.grownBy w' none → wpList Tryd.prog ops Q rest (a.put o.dst v') w') : wpList Tryd.prog ops Q (o :: rest) a w := by
  obtain ⟨i0, hi, hz0, hz1, hz2⟩ := info_parts info_u8
  subst hm hn
  have bytes_cells : ∀ (ad : Addr) (l : List UInt8), BytesAt w w.heap.size (some ad) l → ∀ j u, (cellsOf l)[j]? = some u → w.cell? (ad.add j) = some u := by
    intro ad l hb j u hu
    have hj : j < l.length := by
      rcases Nat.lt_or_ge j l.length with hh | hh
      · exact hh
      · rw [List.getElem?_eq_none (by rw [cellsOf_length]; exact hh)] at hu; cases hu
    obtain ⟨b, off, he, _, hc⟩ := hb (by omega)
    injection he with he
    subst he
    rw [cellsOf_at l j hj] at hu
    rw [Go.WideShapes.add_plain, hc j hj, hu]
  obtain ⟨b, off, rfl, _⟩ := hq.bytes h0
  refine wpList_append_grows w hgd s x 22 ho 5 i0 (.int .u8 0) 1 1 Tryd.underlying22 hi hz0 hz1 hz2 rfl (by decide) A0 xs.length xs.length (cellsOf xs) hs (fun e => ⟨hp.nil e, hp.nil e⟩) (by rw [cellsOf_length, Nat.mul_one]) (fun ad e => bytes_cells ad xs (e ▸ hp.bytes)) ⟨b, off, none⟩ bs.length c (cellsOf bs) hx (by rw [cellsOf_length, Nat.mul_one]) (bytes_cells _ bs hq.bytes) ?_ (by omega) (by unfold maxLen; omega) (by omega) ?_
  · intro u hu
    obtain ⟨b, _, rfl⟩ := List.mem_map.1 hu
    rfl
  · intro v' w' h1 h2
    exact h v' w' (by rw [cellsOf_append]; exact h1) h2
theorem own_row {w : World} {base n : Nat} {e : TypeId} {v : Value} {xs : List Value} (h : w.ownsRow base e 1 v n xs) : ∃ A c, v = .slice A n c ∧ xs.length = n ∧ n ≤ c ∧ (A = none → c = 0) ∧ RowAt w base A xs := by
  have hl : xs.length = n := by have := h.1; rwa [Nat.mul_one] at this
  subst hl
  rcases h.2 with ⟨rfl, h0⟩ | ⟨g, cap, cur, rfl, hb, hg, hnc, hcm, _⟩
  · exact ⟨none, 0, by rw [h0], rfl, by omega, fun _ => rfl, fun hh => by omega⟩
  · refine ⟨_, cap, rfl, rfl, hnc, (fun hh => by cases hh), fun hn => ⟨g, 0, rfl, hb, (h.lt g rfl).2, fun j hj => ?_⟩⟩
    rw [Nat.zero_add, h.cellAt j (by omega)]
    simp
theorem RowAt.more {w : World} {B C : Nat} {A : Option Addr} {vs : List Value} (h : RowAt w B A vs) (hc : C ≤ B) : RowAt w C A vs := fun hn => by
  obtain ⟨q, off, e, h1, h2⟩ := h hn
  exact ⟨q, off, e, Nat.le_trans hc h1, h2⟩
theorem row_one (w : World) (v : Value) (t : TypeId) : RowAt (w.alloc (.cells #[v] t)) 0 (some ⟨w.heap.size, 0, none⟩) [v] := fun _ => ⟨_, 0, rfl, Nat.zero_le _, by rw [alloc_size]; omega, fun j hj => by
  have hj0 : j = 0 := by simpa using hj
  subst hj0
  rw [Nat.zero_add, cell_of_row _ _ _ _ _ _ (heap_alloc_new w _)]; rfl⟩
theorem one_strs (made : List (List UInt8)) : ∀ u ∈ made.map (fun m => Value.string (strOf m)), u.oneCell' = true := by
  intro u hu
  obtain ⟨b, _, rfl⟩ := List.mem_map.1 hu
  rfl
theorem one_rows (cs : List Piece) : ∀ u ∈ cs.map Piece.val, u.oneCell' = true := by
  intro u hu
  obtain ⟨b, _, rfl⟩ := List.mem_map.1 hu
  rfl
theorem made_setT (w : World) (g : Nat) (y0 y1 y2 y3 : Value) : MadeBut w ((((w.setCell ⟨g, 0, none⟩ y0).setCell ⟨g, 1, none⟩ y1).setCell ⟨g, 2, none⟩ y2).setCell ⟨g, 3, none⟩ y3) g :=
  ⟨rfl, rfl, rfl, by simp [World.setCell], fun k _ hk => by
    rw [Below.heap_setCell _ _ _ _ (by exact hk), Below.heap_setCell _ _ _ _ (by exact hk), Below.heap_setCell _ _ _ _ (by exact hk), Below.heap_setCell _ _ _ _ (by exact hk)]⟩
theorem codesL_app (made : List (List UInt8)) (m : List UInt8) (i : Nat) : codesL (made ++ [m]) i = codesL made i ++ [idealL (i + made.length) m] := by
  induction made generalizing i with
  | nil => simp [codesL]
  | cons x xs ih => simp only [List.cons_append, codesL, ih, List.length_cons]; rw [show i + 1 + xs.length = i + (xs.length + 1) by omega]
end Go.Proofs.YtigocnaminkodaaDoor
