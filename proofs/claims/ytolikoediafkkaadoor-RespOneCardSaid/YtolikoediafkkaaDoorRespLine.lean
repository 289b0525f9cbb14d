/- Contract of a writer's line (resp): one more line in the row that it holds. -/
import Derived.Test.YtolikoediafkkaaDoorRespMem
import Derived.Lib.AppendStr
import Derived.Handy
namespace Go.Proofs.YtolikoediafkkaaDoor
open Go.ChangeShapes Go.WideShapes Go.ChangeAt Go.RowKit
set_option linter.unusedVariables false
set_option linter.unusedSimpArgs false

theorem strCells_z (l : List UInt8) : Lib.strCells (strOf l) = cellsOf l := rfl
/-- an own row of bytes -/
def BZ (base : Nat) (v : Value) (xs : List UInt8) (w : World) : Prop := w.ownsRow base 5 1 v xs.length (cellsOf xs)
/-- append of a text onto an own row -/
theorem wpList_appZ {w : World} {ops : Array Oper} {rest : List Oper} {o : Oper} {a : Act} {Q : Exit → Act → World → Prop} (hgd : o.guard = none) (s x : Operand)
    (ho : o.op = .call { callee := .builtin .append, args := #[s, x], argTypes := #[23, 9] })
    (base : Nat) (v : Value) (xs : List UInt8) (sz : ByteArray) (hs : a.eval s = v) (hown : BZ base v xs w) (hx : a.eval x = .string sz)
    (hlen : xs.length + sz.size ≤ 140737488355328) (hbase : base ≤ w.heap.size)
    (h : ∀ v' w', BZ base v' (xs ++ sz.data.toList) w' → w.grownBy w' v.ownBlock → wpList Tryd.prog ops Q rest (a.put o.dst v') w') : wpList Tryd.prog ops Q (o :: rest) a w := by
  obtain ⟨i0, hi, hz0, hz1, hz2⟩ := info_parts info_u8
  refine Lib.wpList_append_own_string _ hgd s x 23 9 ho base 5 i0 Tryd.underlying23 Tryd.underlying9 hi hz0 hz1 hz2 v _ _ hs hown sz hx (by unfold maxLen; omega) (by omega) hbase ?_
  intro v' w' h1 h2 _
  refine h v' w' ?_ h2
  have e : Lib.strCells sz = cellsOf sz.data.toList := strCells_z sz.data.toList
  have el : sz.data.toList.length = sz.size := Array.length_toList
  unfold BZ
  rw [cellsOf_append, List.length_append, ← e, el]
  exact h1
/-- what is neither a block nor a row of bytes stays -/
def KeptO (g : Nat) (w w' : World) : Prop := ∀ k o, w.heap[k]? = some o → k ≠ g → (∀ cs fr, o ≠ .cells cs 5 fr) → w'.heap[k]? = some o
theorem KeptO.refl (g : Nat) (w : World) : KeptO g w w := fun k o h _ _ => h
theorem KeptO.trans {g : Nat} {a b c : World} (h : KeptO g a b) (k : KeptO g b c) : KeptO g a c := fun i o ho hg hc => k i o (h i o ho hg hc) hg hc
theorem KeptO.below {g B : Nat} {w w' : World} (h : Below B w w') (hB : w.heap.size ≤ B) : KeptO g w w' := fun k o ho _ _ => (h.block k (by have := (Array.getElem?_eq_some_iff.1 ho).1; omega)).trans ho
theorem KeptO.resp {g q : Nat} {w w' : World} {s fv bv : Value} (h : KeptO g w w') (hq : RCell w q s fv bv) (hg : q ≠ g) : RCell w' q s fv bv :=
  h q _ hq hg (fun cs fr e => by
    have h2 := (Obj.cells.injEq ..).mp e
    exact absurd h2.2.1 (by decide))
/-- a writer that holds a row of these bytes -/
def WSt (B g : Nat) (bs : List UInt8) (w : World) : Prop := ∃ v, w.heap[g]? = some (.cells #[v] 67 (0, 0)) ∧ BZ B v bs w
theorem own_type {w : World} {B n : Nat} {v : Value} {xs : List Value} (h : w.ownsRow B 5 1 v n xs) {k : Nat} (hk : v.ownBlock = some k) : ∃ cs fr, w.heap[k]? = some (.cells cs 5 fr) := by
  rcases h.2 with h0 | ⟨g, cap, cur, rfl, h1, h2, h3⟩
  · rw [h0.1] at hk; simp [Value.ownBlock] at hk
  · simp [Value.ownBlock] at hk
    subst hk
    exact ⟨_, _, h2⟩
theorem WSt.keep {B g : Nat} {bs : List UInt8} {w w' : World} (h : WSt B g bs w) (hb : Below w.heap.size w w') : WSt B g bs w' := by
  obtain ⟨v, h1, h2⟩ := h
  refine ⟨v, (hb.block g (Array.getElem?_eq_some_iff.1 h1).1).trans h1, ?_⟩
  rcases h2.2 with h0 | ⟨k, cap, cur, rfl, e1, e2, e3⟩
  · exact ⟨h2.1, Or.inl h0⟩
  · exact ⟨h2.1, Or.inr ⟨k, cap, cur, rfl, e1, (hb.block k (Array.getElem?_eq_some_iff.1 e2).1).trans e2, e3⟩⟩
theorem own_kept {w w1 : World} {B n : Nat} {v : Value} {xs : List Value} (h : w.ownsRow B 5 1 v n xs) (hg : w.grownBy w1 v.ownBlock) (g : Nat) : KeptO g w w1 := fun k o ho _ hc => by
  refine (hg.block k (Array.getElem?_eq_some_iff.1 ho).1 ?_).trans ho
  intro e
  obtain ⟨cs, fr, h2⟩ := own_type h e.symm
  rw [h2] at ho
  exact hc cs fr (Option.some.inj ho).symm
set_option maxRecDepth 8000 in
set_option maxHeartbeats 1000000 in
theorem line_any (B g : Nat) (bs l : List UInt8) (w : World) (h : WSt B g bs w) (hB : B ≤ g) (hl : bs.length + l.length ≤ 1000000000) :
    Calls Tryd.prog 35 #[.pointer (some ⟨g, 0, none⟩), .string (strOf l)] w fun e w' => e = .returned (.tuple #[]) ∧ WSt B g (bs ++ (l ++ crlf)) w' ∧ Below B w w' ∧ KeptO g w w' := by
  obtain ⟨v, h1, h2⟩ := h
  have hgs : g < w.heap.size := (Array.getElem?_eq_some_iff.1 h1).1
  have c0 : w.cell? ⟨g, 0, none⟩ = some v := by rw [cell_of_row w g 0 _ _ _ h1]; rfl
  have f0 : w.frozen? ⟨g, 0, none⟩ = false := by simp [World.frozen?, h1]
  have e0 : (strOf l ++ ⟨#[13, 10]⟩).data.toList = l ++ crlf := by simp [strOf, crlf]
  have e1 : (strOf l ++ ⟨#[13, 10]⟩).size = l.length + 2 := by
    have : (strOf l ++ ⟨#[13, 10]⟩).size = (strOf l ++ ⟨#[13, 10]⟩).data.toList.length := Array.length_toList.symm
    rw [this, e0]; simp [crlf]
  obtain ⟨S, hS⟩ : ∃ S, strOf l ++ ⟨#[13, 10]⟩ = S := ⟨_, rfl⟩
  rw [hS] at e0 e1
  have HH := hideIt h1
  have HO := hideIt h2
  have HE0 := hideIt e0
  have hsz : (strOf l).size ≤ 1000000000 := by rw [strOf_size]; omega
  obtain ⟨T, hT⟩ : ∃ T, bs ++ (l ++ crlf) = T := ⟨_, rfl⟩
  rw [hT]
  have HT := hideIt hT
  generalize strOf l = sl at *
  clear h1 h2 e0 hT
  go_enter Tryd.func35, Tryd.ntmps35
  go_wp2_with (at_builtin; refine wpList_appZ rfl (.tmp 8) (.tmp 10) rfl B v bs S rfl HO.out (by first | rfl | (simp; exact hS)) (by omega) (by omega) ?_)
  intro v' w1 hown hgrow
  rw [HE0.out, HT.out] at hown
  obtain ⟨A', c', hv', _⟩ := own_open hown
  have hk := own_kept HO.out hgrow g
  have hne : v.ownBlock ≠ some g := fun e => by
    obtain ⟨cs, fr, e2⟩ := own_type HO.out e
    rw [HH.out] at e2
    have h2 := (Obj.cells.injEq ..).mp (Option.some.inj e2)
    exact absurd h2.2.1 (by decide)
  have HH1 : w1.heap[g]? = some (.cells #[v] 67 (0, 0)) := (hgrow.block g hgs (fun e => hne e.symm)).trans HH.out
  have f1 : w1.frozen? ⟨g, 0, none⟩ = false := by simp [World.frozen?, HH1]
  have c1 : w1.cell? ⟨g, 0, none⟩ = some v := by rw [cell_of_row w1 g 0 _ _ _ HH1]; rfl
  have hb1 : Below B w w1 := (Below.refl _ _).grown hgrow (by omega) (fun j hj => by
    rcases HO.out.2 with h0 | ⟨k, cap, cur, rfl, e1, e2, e3⟩
    · rw [h0.1] at hj; simp [Value.ownBlock] at hj
    · simp [Value.ownBlock] at hj; omega)
  have HW : Hid (WSt B g T (w1.setCell ⟨g, 0, none⟩ v')) := hideIt (by
    refine ⟨v', ?_, ?_⟩
    · have hlt := (Array.getElem?_eq_some_iff.1 HH1).1
      have h' : w1.heap[g] = .cells #[v] 67 (0, 0) := (Array.getElem?_eq_some_iff.1 HH1).2
      rw [Array.getElem?_eq_some_iff]
      refine ⟨by simpa [World.setCell] using hlt, ?_⟩
      simp only [World.setCell]
      rw [Array.getElem_modify, if_pos rfl, h']
      rfl
    · have hx : ∀ k, v'.ownBlock = some k → (w1.setCell ⟨g, 0, none⟩ v').heap[k]? = w1.heap[k]? := fun k hk => by
        obtain ⟨cs, fr, e2⟩ := own_type hown hk
        refine heap_setCell_past _ _ _ _ _ (fun e => ?_)
        rw [e, HH1] at e2
        have h2 := (Obj.cells.injEq ..).mp (Option.some.inj e2)
        exact absurd h2.2.1 (by decide)
      rcases hown.2 with h0 | ⟨k, cap, cur, rfl, e1, e2, e3⟩
      · exact ⟨hown.1, Or.inl h0⟩
      · exact ⟨hown.1, Or.inr ⟨k, cap, cur, rfl, e1, (hx k rfl).trans e2, e3⟩⟩)
  have HB : Hid (Below B w (w1.setCell ⟨g, 0, none⟩ v')) := hideIt (hb1.setCell (by exact hB) _)
  have HK : Hid (KeptO g w (w1.setCell ⟨g, 0, none⟩ v')) := hideIt fun k o ho hg hc => (heap_setCell_past _ _ _ _ _ hg).trans (hk k o ho hg hc)
  clear hown hgrow hk hne HH1 hb1
  subst hv'
  generalize T.length = tn at *
  go_wp2
  first | go_end0 | go_ret
  exact ⟨rfl, HW.out, HB.out, HK.out⟩
theorem go_line : goFn Tryd.prog 35 = true := by kernel_rfl
end Go.Proofs.YtolikoediafkkaaDoor
