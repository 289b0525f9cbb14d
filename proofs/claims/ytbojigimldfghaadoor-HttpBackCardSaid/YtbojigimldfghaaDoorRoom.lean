/- Rows of bytes with room: make with a capacity, append within it, a row cut back to nothing. Nothing here speaks of one function. -/
import Derived.Test.YtbojigimldfghaaDoorBase
namespace Go.Proofs.YtbojigimldfghaaDoor
open Go.ChangeShapes Go.WideShapes Go.ChangeAt Go.RowKit
set_option linter.unusedVariables false

/-- make([]byte, n, cap) -/
theorem wpList_makeCap {w : World} {ops : Array Oper} {rest : List Oper} {o : Oper} {a : Act} {Q : Exit → Act → World → Prop} (hgd : o.guard = none) (l c : Operand) (ho : o.op = .makeSlice 22 l c)
    (n cap : Nat) (L C : Int) (hl : a.eval l = .int .i64 L) (hc : a.eval c = .int .i64 C) (hL : L = (n : Int)) (hC : C = (cap : Int)) (hnc : n ≤ cap) (hcap : cap ≤ 140737488355328)
    (h : ∀ w1, w1.ownsRow w.heap.size 5 1 (.slice (some ⟨w.heap.size, 0, none⟩) n cap) n (cellsOf (List.replicate n 0)) → w.grownBy w1 none → wpList Tryd.prog ops Q rest (a.put o.dst (.slice (some ⟨w.heap.size, 0, none⟩) n cap)) w1) :
    wpList Tryd.prog ops Q (o :: rest) a w := by
  obtain ⟨i0, hi, hz0, hz1, hz2⟩ := info_parts info_u8
  subst hL hC
  refine wpList_plain hgd fun K hK' => ?_
  have hr := run_make (P := Tryd.prog) w 22 5 i0 (.int .u8 0) Tryd.underlying22 hi hz0 .i64 .i64 n cap (by omega) (by omega) (by rw [hz2]; omega) (by omega)
  simp only [Int.toNat_natCast, hz1, Nat.mul_one] at hr
  have e0 : (Value.int .u8 0).cells = #[Value.int .u8 0] := rfl
  have hown : (w.alloc (.cells (madeCells (Value.int .u8 0).cells cap) 5)).ownsRow w.heap.size 5 1 (.slice (some ⟨w.heap.size, 0, none⟩) n cap) n (cellsOf (List.replicate n 0)) := by
    refine ⟨by simp [cellsOf], Or.inr ⟨w.heap.size, cap, madeCells (Value.int .u8 0).cells cap, rfl, Nat.le_refl _, by show (w.heap.push _)[w.heap.size]? = _; simp, hnc, by unfold maxLen; omega, by rw [size_madeCells, Nat.mul_one], ?_⟩⟩
    rw [e0, toList_madeCells_one, Nat.mul_one, List.take_replicate, Nat.min_eq_left hnc]
    simp [cellsOf]
  unfold Oper.wp
  simp [execOp, ho, hl, hc, hr, Result.andThen]
  exact hK' _ _ (h _ hown (World.grownBy_alloc w _ none))

/-- append of whatever bytes onto a row of the call's own, where there is room -/
theorem wpList_fit {w : World} {ops : Array Oper} {rest : List Oper} {o : Oper} {a : Act} {Q : Exit → Act → World → Prop} (hgd : o.guard = none) (s x : Operand)
    (ho : o.op = .call { callee := .builtin .append, args := #[s, x], argTypes := #[22, 22] })
    (base g n cap : Nat) (xs : List UInt8) (hs : a.eval s = .slice (some ⟨g, 0, none⟩) n cap) (hown : w.ownsRow base 5 1 (.slice (some ⟨g, 0, none⟩) n cap) n (cellsOf xs))
    (A : Option Addr) (m c B : Nat) (bs : List UInt8) (hx : a.eval x = .slice A m c) (hm : bs.length = m) (hnil : A = none → c = 0) (hb : BytesAt w B A bs)
    (hroom : n + m ≤ cap)
    (h : ∀ w', w'.ownsRow base 5 1 (.slice (some ⟨g, 0, none⟩) (n + m) cap) (n + m) (cellsOf (xs ++ bs)) → w.grownBy w' (some g) → wpList Tryd.prog ops Q rest (a.put o.dst (.slice (some ⟨g, 0, none⟩) (n + m) cap)) w') : wpList Tryd.prog ops Q (o :: rest) a w := by
  obtain ⟨i0, hi, hz0, hz1, hz2⟩ := info_parts info_u8
  subst hm
  rcases A with _ | ad
  · obtain rfl := hnil rfl
    have hbs : bs = [] := by
      rcases Nat.eq_zero_or_pos bs.length with h0 | h0
      · exact List.eq_nil_of_length_eq_zero h0
      · obtain ⟨_, _, hh, _⟩ := hb h0
        cases hh
    subst hbs
    refine wpList_append_own_none hgd s x 22 ho base 5 i0 1 Tryd.underlying22 hi _ n _ hs hown hx ?_
    have := h w (by simpa using hown) ⟨rfl, rfl, rfl, Nat.le_refl _, fun _ _ _ => rfl⟩
    exact this
  · refine wpList_append_fits w hgd s x 22 ho base 5 i0 1 Tryd.underlying22 hi hz1 g n cap _ hs hown ad bs.length c (cellsOf bs) hx (by rw [cellsOf_length, Nat.mul_one]) ?_ ?_ hroom ?_
    · intro j u hu
      have hj : j < bs.length := by
        rcases Nat.lt_or_ge j bs.length with hh | hh
        · exact hh
        · rw [List.getElem?_eq_none (by rw [cellsOf_length]; exact hh)] at hu; cases hu
      obtain ⟨b, off, he, _, hc⟩ := hb (by omega)
      obtain rfl := Option.some.inj he
      rw [cellsOf_at bs j hj] at hu
      rw [Go.WideShapes.add_plain, hc j hj, hu]
    · intro u hu
      obtain ⟨b, _, rfl⟩ := List.mem_map.1 hu
      rfl
    · intro w' h1 h2
      exact h w' (by rw [cellsOf_append]; exact h1) h2
/-- a row of one's own, cut back to nothing -/
theorem own_cut {w : World} {base g n cap : Nat} {e : TypeId} {xs : List Value} (h : w.ownsRow base e 1 (.slice (some ⟨g, 0, none⟩) n cap) n xs) : w.ownsRow base e 1 (.slice (some ⟨g, 0, none⟩) 0 cap) 0 [] := by
  rcases h.2 with ⟨h0, _⟩ | ⟨g', cap', cur, h0, hb, hg, hnc, hcm, hsz, _⟩
  · cases h0
  · cases h0
    exact ⟨rfl, Or.inr ⟨g, cap, cur, rfl, hb, hg, by omega, hcm, hsz, by simp⟩⟩
theorem own_base {w : World} {base base' g n cap : Nat} {e : TypeId} {xs : List Value} (h : w.ownsRow base e 1 (.slice (some ⟨g, 0, none⟩) n cap) n xs) (hb : base' ≤ g) : w.ownsRow base' e 1 (.slice (some ⟨g, 0, none⟩) n cap) n xs := by
  rcases h.2 with ⟨h0, _⟩ | ⟨g', cap', cur, h0, _, hg, hnc, hcm, hsz, ht⟩
  · cases h0
  · cases h0
    exact ⟨h.1, Or.inr ⟨g, cap, cur, rfl, hb, hg, hnc, hcm, hsz, ht⟩⟩
/-- what is owned stays so where its block does -/
theorem own_keep {w w' : World} {base g n cap : Nat} {e : TypeId} {xs : List Value} (h : w.ownsRow base e 1 (.slice (some ⟨g, 0, none⟩) n cap) n xs) (hk : w'.heap[g]? = w.heap[g]?) : w'.ownsRow base e 1 (.slice (some ⟨g, 0, none⟩) n cap) n xs := by
  rcases h.2 with ⟨h0, _⟩ | ⟨g', cap', cur, h0, hb, hg, hnc, hcm, hsz, ht⟩
  · cases h0
  · cases h0
    exact ⟨h.1, Or.inr ⟨g, cap, cur, rfl, hb, hk.trans hg, hnc, hcm, hsz, ht⟩⟩
theorem own_lt {w : World} {base g n cap : Nat} {e : TypeId} {xs : List Value} (h : w.ownsRow base e 1 (.slice (some ⟨g, 0, none⟩) n cap) n xs) : base ≤ g ∧ g < w.heap.size := by
  rcases h.2 with ⟨h0, _⟩ | ⟨g', cap', cur, h0, hb, hg, _⟩
  · cases h0
  · cases h0
    exact ⟨hb, (Array.getElem?_eq_some_iff.1 hg).1⟩
end Go.Proofs.YtbojigimldfghaaDoor
