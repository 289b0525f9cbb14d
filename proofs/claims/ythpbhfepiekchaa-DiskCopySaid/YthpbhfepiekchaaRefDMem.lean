/- The reference's disk in memory: a struct by value whose files lie in a row that is only read. Nothing here walks a function. -/
import Derived.Test.YthpbhfepiekchaaStrFacts
import Derived.Test.YthpbhfepiekchaaDiskWays
import Derived.Laws.ResultCell
import Derived.Laws.Rows
import Derived.Lib.Builder
namespace Go.Proofs.Ythpbhfepiekchaa
open Go.ChangeShapes Go.WideShapes Go.ChangeAt Go.RowKit
set_option linter.unusedVariables false
set_option linter.unusedSimpArgs false

/-- a file, and where its bytes lie -/
structure FR where
  name : List UInt8
  A : Option Addr
  c : Nat
  b : List UInt8
  lasts : Nat
def FR.file (r : FR) : FileP := ⟨r.name, r.b, r.lasts⟩
def FR.row (r : FR) : Value := .slice r.A r.b.length r.c
def FR.val (r : FR) : Value := .agg #[.string (strOf r.name), r.row, .int .i64 (r.lasts : Int)]
/-- the cells of files -/
def frC (rs : List FR) : List Value := rs.flatMap fun r => [.string (strOf r.name), r.row, .int .i64 (r.lasts : Int)]
theorem frC_cons (r : FR) (rs : List FR) : frC (r :: rs) = .string (strOf r.name) :: r.row :: .int .i64 (r.lasts : Int) :: frC rs := by simp [frC]
theorem frC_length (rs : List FR) : (frC rs).length = rs.length * 3 := by
  induction rs with
  | nil => rfl
  | cons x r ih => rw [frC_cons]; simp only [List.length_cons, ih]; omega
theorem frC_append (a b : List FR) : frC (a ++ b) = frC a ++ frC b := by simp [frC]
theorem frC_at (rs : List FR) (j : Nat) (r : FR) (h : rs[j]? = some r) : (frC rs)[3 * j]? = some (.string (strOf r.name)) ∧ (frC rs)[3 * j + 1]? = some r.row ∧ (frC rs)[3 * j + 2]? = some (.int .i64 (r.lasts : Int)) := by
  induction rs generalizing j with
  | nil => simp at h
  | cons y q ih =>
    rw [frC_cons]
    cases j with
    | zero => simp at h; subst h; simp
    | succ j =>
      have := ih j (by simpa using h)
      rw [show 3 * (j + 1) = 3 * j + 1 + 1 + 1 by omega]
      simpa using this
theorem frC_one (rs : List FR) : ∀ u ∈ frC rs, u.oneCell' = true := by
  intro u hu
  simp only [frC, List.mem_flatMap] at hu
  obtain ⟨x, _, h⟩ := hu
  simp at h
  rcases h with rfl | rfl | rfl <;> rfl
/-- files that can be read -/
def FAt (w : World) (A : Option Addr) (rs : List FR) : Prop :=
  0 < rs.length → ∃ b off, A = some ⟨b, off, none⟩ ∧ b < w.heap.size ∧ ∀ j r, rs[j]? = some r → w.cell? ⟨b, off + 3 * j, none⟩ = some (.string (strOf r.name)) ∧ w.cell? ⟨b, off + 3 * j + 1, none⟩ = some r.row ∧ w.cell? ⟨b, off + 3 * j + 2, none⟩ = some (.int .i64 (r.lasts : Int))
theorem FAt.keep {w w' : World} {A : Option Addr} {rs : List FR} (h : FAt w A rs) (hb : Below w.heap.size w w') : FAt w' A rs := fun hn => by
  obtain ⟨b, off, e, hlt, hc⟩ := h hn
  refine ⟨b, off, e, Nat.lt_of_lt_of_le hlt hb.size, fun j x hj => ?_⟩
  have := hc j x hj
  exact ⟨(hb.cell (p := ⟨b, off + 3 * j, none⟩) hlt).trans this.1, (hb.cell (p := ⟨b, off + 3 * j + 1, none⟩) hlt).trans this.2.1, (hb.cell (p := ⟨b, off + 3 * j + 2, none⟩) hlt).trans this.2.2⟩
theorem FAt.moved {w w' : World} {A : Option Addr} {rs : List FR} (h : FAt w A rs) (hb : ∀ ad, A = some ad → ∀ k : Unit, w'.heap[ad.block]? = w.heap[ad.block]?) : FAt w' A rs := fun hn => by
  obtain ⟨b, off, e, hlt, hc⟩ := h hn
  have h1 : w'.heap[b]? = w.heap[b]? := hb _ e ()
  refine ⟨b, off, e, ?_, fun j x hj => ?_⟩
  · rw [Array.getElem?_eq_getElem hlt] at h1
    exact (Array.getElem?_eq_some_iff.1 h1).1
  · have := hc j x hj
    simpa only [World.cell?, h1] using this
theorem FAt.nil (w : World) (A : Option Addr) : FAt w A [] := fun h => by simp at h
/-- a row of files of the call's own -/
def FOwn (base : Nat) (v : Value) (rs : List FR) (w : World) : Prop := w.ownsRow base 76 3 v rs.length (frC rs)
theorem FOwn.nil (base : Nat) (w : World) : FOwn base (.slice none 0 0) [] w := ⟨rfl, Or.inl ⟨rfl, rfl⟩⟩
theorem FOwn.open {base : Nat} {v : Value} {rs : List FR} {w : World} (h : FOwn base v rs w) : ∃ A c, v = .slice A rs.length c ∧ rs.length ≤ c ∧ c ≤ maxLen ∧ (A = none → c = 0) ∧ FAt w A rs ∧ ∀ ad, A = some ad → base ≤ ad.block := by
  rcases h.2 with ⟨rfl, h0⟩ | ⟨g, cap, cur, rfl, hb, hg, hnc, hcm, _⟩
  · exact ⟨none, 0, by rw [h0], by omega, by unfold maxLen; omega, fun _ => rfl, fun hh => by omega, fun ad h => by cases h⟩
  · refine ⟨_, cap, rfl, hnc, hcm, (fun hh => by cases hh), fun hn => ⟨g, 0, rfl, (h.lt g rfl).2, fun j x hj => ?_⟩, fun ad h => by cases h; exact hb⟩
    have hjl : j < rs.length := (List.getElem?_eq_some_iff.1 hj).1
    obtain ⟨h1, h2, h3⟩ := frC_at rs j x hj
    rw [Nat.zero_add, World.ownsRow.cellAt h (3 * j) (by omega), World.ownsRow.cellAt h (3 * j + 1) (by omega), World.ownsRow.cellAt h (3 * j + 2) (by omega)]
    exact ⟨h1, h2, h3⟩
theorem FOwn.keep {base : Nat} {v : Value} {rs : List FR} {w w' : World} (h : FOwn base v rs w) (hb : Below w.heap.size w w') : FOwn base v rs w' := by
  refine ⟨h.1, ?_⟩
  have hlt := World.ownsRow.lt h
  rcases h.2 with h0 | ⟨g, cap, cur, rfl, h1, h2, h3⟩
  · exact Or.inl h0
  · exact Or.inr ⟨g, cap, cur, rfl, h1, (hb.block g (hlt g rfl).2).trans h2, h3⟩
theorem info_file : (Try.prog.info? 76).map (fun i => (i.zero, i.size, i.bytes)) = some (some (.agg #[.string ⟨#[]⟩, .slice none 0 0, .int .i64 0]), 3, 48) := by kernel_rfl
/-- append of files onto a row of the call's own -/
theorem wpList_appF {w : World} {ops : Array Oper} {rest : List Oper} {o : Oper} {a : Act} {Q : Exit → Act → World → Prop} (hgd : o.guard = none) (s x : Operand)
    (ho : o.op = .call { callee := .builtin .append, args := #[s, x], argTypes := #[35, 35] })
    (base : Nat) (v : Value) (ps : List FR) (hs : a.eval s = v) (hown : FOwn base v ps w)
    (A : Option Addr) (n c : Nat) (qs : List FR) (hx : a.eval x = .slice A n c) (hn : qs.length = n) (hnil : A = none → c = 0) (hq : FAt w A qs)
    (hlen : ps.length + qs.length ≤ 1000000) (hbase : base ≤ w.heap.size)
    (h : ∀ v' w', FOwn base v' (ps ++ qs) w' → w.grownBy w' v.ownBlock → wpList Try.prog ops Q rest (a.put o.dst v') w') : wpList Try.prog ops Q (o :: rest) a w := by
  obtain ⟨i0, hi, hz0, hz1, hz2⟩ := info_parts info_file
  subst hn
  rcases A with _ | ad
  · obtain rfl := hnil rfl
    have hqs : qs = [] := by
      rcases Nat.eq_zero_or_pos qs.length with h0 | h0
      · exact List.eq_nil_of_length_eq_zero h0
      · obtain ⟨_, _, hh, _⟩ := hq h0
        cases hh
    subst hqs
    refine wpList_append_own_none hgd s x 35 ho base 76 i0 3 Try.underlying35 hi v ps.length _ hs hown hx ?_
    have := h v w (by simpa using hown) ⟨rfl, rfl, rfl, Nat.le_refl _, fun _ _ _ => rfl⟩
    exact this
  · refine wpList_append_own w hgd s x 35 ho base 76 i0 (.agg #[.string ⟨#[]⟩, .slice none 0 0, .int .i64 0]) 3 48 Try.underlying35 hi hz0 hz1 hz2 rfl (by decide) v ps.length _ hs hown ad qs.length c (frC qs) hx (frC_length qs) ?_ (frC_one qs) (by unfold maxLen; omega) (by omega) hbase ?_
    · intro j u hu
      have hj : j < qs.length * 3 := by
        rcases Nat.lt_or_ge j (qs.length * 3) with hh | hh
        · exact hh
        · rw [List.getElem?_eq_none (by rw [frC_length]; exact hh)] at hu; cases hu
      obtain ⟨b, off, he, _, hc⟩ := hq (by omega)
      obtain rfl := Option.some.inj he
      have hd : j / 3 < qs.length := by omega
      obtain ⟨x, hx2⟩ : ∃ x, qs[j / 3]? = some x := ⟨_, List.getElem?_eq_getElem hd⟩
      obtain ⟨h1, h2, h3⟩ := hc (j / 3) x hx2
      obtain ⟨p1, p2, p3⟩ := frC_at qs (j / 3) x hx2
      rw [Go.WideShapes.add_plain]
      have hm : j % 3 = 0 ∨ j % 3 = 1 ∨ j % 3 = 2 := by omega
      rcases hm with hm | hm | hm
      · rw [show 3 * (j / 3) = j by omega] at p1 h1
        rw [h1, ← p1, hu]
      · rw [show off + 3 * (j / 3) + 1 = off + j by omega] at h2
        rw [show 3 * (j / 3) + 1 = j by omega] at p2
        rw [h2, ← p2, hu]
      · rw [show off + 3 * (j / 3) + 2 = off + j by omega] at h3
        rw [show 3 * (j / 3) + 2 = j by omega] at p3
        rw [h3, ← p3, hu]
    · intro v' w' h1 h2 _
      refine h v' w' ?_ h2
      unfold FOwn
      rw [frC_append, List.length_append]
      exact h1
/-- the struct's cells -/
def tC (fv : Value) (room : Nat) (fu : Bool) (left : Int) (dead : Bool) : Array Value := #[fv, .int .i64 (room : Int), .bool fu, .int .i64 left, .bool dead]
def tV (fv : Value) (room : Nat) (fu : Bool) (left : Int) (dead : Bool) : Value := .agg (tC fv room fu left dead)
def TAt (w : World) (g : Nat) (x : Array Value) : Prop := x.size = 5 ∧ w.heap[g]? = some (.cells x 37 (0, 0))
theorem TAt.lt {w : World} {g : Nat} {x : Array Value} (h : TAt w g x) : g < w.heap.size := (Array.getElem?_eq_some_iff.1 h.2).1
theorem TAt.cell {w : World} {g : Nat} {x : Array Value} (h : TAt w g x) (i : Nat) : w.cell? ⟨g, i, none⟩ = x[i]? := cell_of_row w _ _ _ _ _ h.2
theorem TAt.fz {w : World} {g : Nat} {x : Array Value} (h : TAt w g x) (i : Nat) : w.frozen? ⟨g, i, none⟩ = false := Lib.frozen_of_heap h.2 i
theorem TAt.set {w : World} {g : Nat} {x : Array Value} (h : TAt w g x) (i : Nat) (v : Value) : TAt (w.setCell ⟨g, i, none⟩ v) g (x.setIfInBounds i v) := ⟨by simpa using h.1, heap_setCell_same w g i _ _ v h.2⟩
theorem TAt.keep {w w' : World} {g : Nat} {x : Array Value} (h : TAt w g x) (hb : w'.heap[g]? = w.heap[g]?) : TAt w' g x := ⟨h.1, hb.trans h.2⟩
theorem TAt.load {w : World} {g : Nat} {a b c d e : Value} (h : TAt w g #[a, b, c, d, e]) : (loadVar 37 ⟨g, 0, none⟩).run Try.prog w = .ok (.agg #[a, b, c, d, e]) w :=
  run_loadVar_row (P := Try.prog) w g 37 37 _ (0, 0) _ h.2 Try.underlying37 rfl (by kernel_rfl)
/-- an answer: a disk in a cell -/
theorem results_D {fn : Func} {q : Tmp} (h : fn.results = #[.cell q 37]) (tmps : Array Value) (w : World) (g : Nat) (x0 x1 x2 x3 x4 : Value) (hq : tmps.getD q undef = .pointer (some ⟨g, 0, none⟩)) (hA : TAt w g #[x0, x1, x2, x3, x4]) :
    (results fn tmps).run Try.prog w = .ok (.agg #[x0, x1, x2, x3, x4]) w := by
  have e : (results fn tmps).run Try.prog w = ((asAddr (tmps.getD q undef)).run Try.prog w).andThen fun a w₁ => (loadVar 37 a).run Try.prog w₁ := by
    simp only [results, h]
    simp [Sem.run_bind, Result.andThen]
  rw [e, hq]
  simp [asAddr, hA.load, Result.andThen]
/-- an answer: a disk in a cell, and a value -/
theorem results_D2 {fn : Func} {q u : Tmp} (h : fn.results = #[.cell q 37, .tmp u]) (tmps : Array Value) (w : World) (g : Nat) (x0 x1 x2 x3 x4 v : Value) (hq : tmps.getD q undef = .pointer (some ⟨g, 0, none⟩)) (hu : tmps.getD u undef = v) (hA : TAt w g #[x0, x1, x2, x3, x4]) :
    (results fn tmps).run Try.prog w = .ok (.tuple #[.agg #[x0, x1, x2, x3, x4], v]) w := by
  rw [results_cell_tmp h, hq, hu]
  simp [asAddr, hA.load, Result.andThen]
/-- a disk by value: its files lie in blocks of which N holds none -/
structure TOk (w : World) (N : Nat → Prop) (A : Option Addr) (c : Nat) (rs : List FR) (left : Int) (D : DiskP) : Prop where
  files : rs.map FR.file = D.files
  at_ : FAt w A rs
  fit : rs.length ≤ c ∧ c ≤ 9223372036854775807
  nil : A = none → c = 0
  each : ∀ r ∈ rs, PieceOk w ⟨r.A, r.c, r.b⟩
  away : ∀ ad, A = some ad → 0 < rs.length → ¬ N ad.block
  awayE : ∀ r ∈ rs, ∀ k, N k → Apart r.A r.b k
  leftIs : ∀ k : Nat, D.fuse = some k → left = (k : Int)
  fits : 0 ≤ left ∧ left ≤ 9223372036854775807
def TIs (w : World) (N : Nat → Prop) (v : Value) (D : DiskP) : Prop := ∃ A c rs left, v = tV (.slice A rs.length c) D.room D.fuse.isSome left D.dead ∧ TOk w N A c rs left D
theorem TOk.keep {w w' : World} {N : Nat → Prop} {A : Option Addr} {c : Nat} {rs : List FR} {left : Int} {D : DiskP} (h : TOk w N A c rs left D) (hb : Below w.heap.size w w') : TOk w' N A c rs left D :=
  { h with at_ := h.at_.keep hb, each := fun r hr => (h.each r hr).keep hb }
theorem TIs.keep {w w' : World} {N : Nat → Prop} {v : Value} {D : DiskP} (h : TIs w N v D) (hb : Below w.heap.size w w') : TIs w' N v D := by
  obtain ⟨A, c, rs, left, e, h⟩ := h
  exact ⟨A, c, rs, left, e, h.keep hb⟩
theorem TOk.num {w : World} {N : Nat → Prop} {A : Option Addr} {c : Nat} {rs : List FR} {left : Int} {D : DiskP} (h : TOk w N A c rs left D) : rs.length = D.files.length := by rw [← h.files, List.length_map]
/-- where a file of that name stands -/
def posR : List FR → List UInt8 → Option Nat
  | [], _ => none
  | r :: q, s => if r.name = s then some 0 else (posR q s).map (· + 1)
def posV : Option Nat → Int
  | none => -1
  | some j => (j : Int)
theorem posR_none {rs : List FR} {s : List UInt8} (h : posR rs s = none) : findP (rs.map FR.file) s = none := by
  induction rs with
  | nil => rfl
  | cons r q ih =>
    unfold posR at h
    split at h
    · cases h
    · rename_i hn
      have h2 : ¬ (FR.file r).name = s := hn
      simp only [List.map_cons, findP, if_neg h2]
      exact ih (by simpa using h)
theorem posR_some {rs : List FR} {s : List UInt8} {j : Nat} (h : posR rs s = some j) : ∃ r, rs[j]? = some r ∧ r.name = s ∧ findP (rs.map FR.file) s = some r.file := by
  induction rs generalizing j with
  | nil => cases h
  | cons r q ih =>
    unfold posR at h
    split at h
    · rename_i hn
      cases h
      have h2 : (FR.file r).name = s := hn
      exact ⟨r, rfl, hn, by simp only [List.map_cons, findP, if_pos h2]⟩
    · rename_i hn
      obtain ⟨i, hi, rfl⟩ := Option.map_eq_some_iff.1 h
      obtain ⟨r2, h1, h2, h3⟩ := ih hi
      have h4 : ¬ (FR.file r).name = s := hn
      exact ⟨r2, by simpa using h1, h2, by simp only [List.map_cons, findP, if_neg h4]; exact h3⟩
theorem posR_is {rs : List FR} {s : List UInt8} {j : Nat} {r : FR} (h1 : ∀ i q, i < j → rs[i]? = some q → q.name ≠ s) (h2 : rs[j]? = some r) (h3 : r.name = s) : posR rs s = some j := by
  induction rs generalizing j with
  | nil => simp at h2
  | cons x q ih =>
    unfold posR
    cases j with
    | zero => simp at h2; subst h2; rw [if_pos h3]
    | succ j =>
      rw [if_neg (h1 0 x (by omega) rfl), ih (j := j) (fun i y hi hy => h1 (i + 1) y (by omega) (by simpa using hy)) (by simpa using h2)]; rfl
theorem posR_miss {rs : List FR} {s : List UInt8} (h : ∀ i q, i < rs.length → rs[i]? = some q → q.name ≠ s) : posR rs s = none := by
  induction rs with
  | nil => rfl
  | cons x q ih =>
    unfold posR
    rw [if_neg (h 0 x (by simp) rfl), ih (fun i y hi hy => h (i + 1) y (by simp; omega) (by simpa using hy))]; rfl
end Go.Proofs.Ythpbhfepiekchaa
