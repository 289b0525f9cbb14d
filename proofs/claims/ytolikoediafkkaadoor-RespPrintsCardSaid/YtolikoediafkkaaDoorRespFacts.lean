/- A Response in a block of its own: reading and writing it, as a function's answer. And what was RespMem, RespLine, RespMap. -/
import Derived.Test.YtolikoediafkkaaDoorRespPlain
import Derived.Test.YtolikoediafkkaaDoorBClone
import Derived.Test.YtolikoediafkkaaDoorPairCell
import Derived.Test.YtolikoediafkkaaDoorStrFacts
import Derived.Laws.ResultCell
import Derived.Laws.Rows
import Derived.Lib.SliceRun
import Derived.Lib.AppendStr
import Derived.Handy
import Derived.MapKept
import Derived.ChangeMaps4
import Derived.Carry
import Derived.Test.YtolikoediafkkaaDoorItoa
namespace Go.Proofs.YtolikoediafkkaaDoor
open Go.ChangeShapes Go.WideShapes Go.ChangeAt Go.RowKit
set_option linter.unusedVariables false
set_option linter.unusedSimpArgs false

/-- a Response's three cells in a block -/
def RCell (w : World) (g : Nat) (s fv bv : Value) : Prop := w.heap[g]? = some (.cells #[s, fv, bv] 25 (0, 0))
theorem RCell.lt {w : World} {g : Nat} {s fv bv : Value} (h : RCell w g s fv bv) : g < w.heap.size := (Array.getElem?_eq_some_iff.1 h).1
theorem RCell.c0 {w : World} {g : Nat} {s fv bv : Value} (h : RCell w g s fv bv) : w.cell? ⟨g, 0, none⟩ = some s := by rw [cell_of_row w g 0 _ _ _ h]; rfl
theorem RCell.c1 {w : World} {g : Nat} {s fv bv : Value} (h : RCell w g s fv bv) : w.cell? ⟨g, 1, none⟩ = some fv := by rw [cell_of_row w g 1 _ _ _ h]; rfl
theorem RCell.c2 {w : World} {g : Nat} {s fv bv : Value} (h : RCell w g s fv bv) : w.cell? ⟨g, 2, none⟩ = some bv := by rw [cell_of_row w g 2 _ _ _ h]; rfl
theorem RCell.fz {w : World} {g : Nat} {s fv bv : Value} (h : RCell w g s fv bv) (i : Nat) : w.frozen? ⟨g, i, none⟩ = false := by unfold RCell at h; simp [World.frozen?, h]
theorem RCell.keep {w w' : World} {g B : Nat} {s fv bv : Value} (h : RCell w g s fv bv) (hb : Below B w w') (hg : g < B) : RCell w' g s fv bv := (hb.block g hg).trans h
theorem RCell.new (w : World) (s fv bv : Value) : RCell (w.alloc (.cells #[s, fv, bv] 25)) w.heap.size s fv bv := heap_alloc_new w _
/-- a new Response's cells -/
def zeroR : Obj := .cells #[.int .i64 0, .slice none 0 0, .slice none 0 0] 25
theorem RCell.zero (w : World) : RCell (w.alloc zeroR) w.heap.size (.int .i64 0) (.slice none 0 0) (.slice none 0 0) := heap_alloc_new w _
theorem RCell.set {w : World} {g : Nat} {s fv bv : Value} (h : RCell w g s fv bv) (s' fv' bv' : Value) : RCell (((w.setCell ⟨g, 0, none⟩ s').setCell ⟨g, 1, none⟩ fv').setCell ⟨g, 2, none⟩ bv') g s' fv' bv' := by
  have hlt := h.lt
  unfold RCell at h ⊢
  have h' : w.heap[g] = .cells #[s, fv, bv] 25 (0, 0) := (Array.getElem?_eq_some_iff.1 h).2
  rw [Array.getElem?_eq_some_iff]
  refine ⟨by simpa [World.setCell] using hlt, ?_⟩
  simp only [World.setCell]
  rw [Array.getElem_modify, if_pos rfl, Array.getElem_modify, if_pos rfl, Array.getElem_modify, if_pos rfl, h']
  rfl
theorem RCell.set0 {w : World} {g : Nat} {s fv bv : Value} (h : RCell w g s fv bv) (s' : Value) : RCell (w.setCell ⟨g, 0, none⟩ s') g s' fv bv := by
  have hlt := h.lt
  unfold RCell at h ⊢
  have h' : w.heap[g] = .cells #[s, fv, bv] 25 (0, 0) := (Array.getElem?_eq_some_iff.1 h).2
  rw [Array.getElem?_eq_some_iff]
  refine ⟨by simpa [World.setCell] using hlt, ?_⟩
  simp only [World.setCell]
  rw [Array.getElem_modify, if_pos rfl, h']
  rfl
theorem RCell.set1 {w : World} {g : Nat} {s fv bv : Value} (h : RCell w g s fv bv) (fv' : Value) : RCell (w.setCell ⟨g, 1, none⟩ fv') g s fv' bv := by
  have hlt := h.lt
  unfold RCell at h ⊢
  have h' : w.heap[g] = .cells #[s, fv, bv] 25 (0, 0) := (Array.getElem?_eq_some_iff.1 h).2
  rw [Array.getElem?_eq_some_iff]
  refine ⟨by simpa [World.setCell] using hlt, ?_⟩
  simp only [World.setCell]
  rw [Array.getElem_modify, if_pos rfl, h']
  rfl
theorem below_setR {w w' : World} {B g : Nat} (h : Below B w w') (hg : B ≤ g) (s fv bv : Value) : Below B w (((w'.setCell ⟨g, 0, none⟩ s).setCell ⟨g, 1, none⟩ fv).setCell ⟨g, 2, none⟩ bv) :=
  ((h.setCell (by exact hg) s).setCell (by exact hg) fv).setCell (by exact hg) bv
theorem grown_setR (w : World) (g : Nat) (s fv bv : Value) : w.grownBy (((w.setCell ⟨g, 0, none⟩ s).setCell ⟨g, 1, none⟩ fv).setCell ⟨g, 2, none⟩ bv) (some g) :=
  ⟨rfl, rfl, rfl, by simp [World.setCell], fun k hk hne => by
    have hkg : g ≠ k := fun e => hne (by rw [e])
    simp only [World.setCell]
    rw [Array.getElem?_modify, if_neg hkg, Array.getElem?_modify, if_neg hkg, Array.getElem?_modify, if_neg hkg]⟩
theorem RCell.load {w : World} {g : Nat} {s fv bv : Value} (h : RCell w g s fv bv) : (loadVar 25 ⟨g, 0, none⟩).run Tryd.prog w = .ok (.agg #[s, fv, bv]) w :=
  run_loadVar_row (P := Tryd.prog) w g 25 25 _ (0, 0) _ h Tryd.underlying25 rfl (by kernel_rfl)
/-- an answer: a Response in a cell -/
theorem results_R {fn : Func} {q : Tmp} (h : fn.results = #[.cell q 25]) (tmps : Array Value) (w : World) (g : Nat) (s fv bv : Value) (hq : tmps.getD q undef = .pointer (some ⟨g, 0, none⟩)) (hA : RCell w g s fv bv) :
    (results fn tmps).run Tryd.prog w = .ok (.agg #[s, fv, bv]) w := by
  have e : (results fn tmps).run Tryd.prog w = ((asAddr (tmps.getD q undef)).run Tryd.prog w).andThen fun a w₁ => (loadVar 25 a).run Tryd.prog w₁ := by
    simp only [results, h]
    simp [Sem.run_bind, Result.andThen]
  rw [e, hq]
  simp [asAddr, hA.load, Result.andThen]
/-- an answer: a Response in a cell, and a value -/
theorem results_R2 {fn : Func} {q u : Tmp} (h : fn.results = #[.cell q 25, .tmp u]) (tmps : Array Value) (w : World) (g : Nat) (s fv bv v : Value) (hq : tmps.getD q undef = .pointer (some ⟨g, 0, none⟩)) (hu : tmps.getD u undef = v) (hA : RCell w g s fv bv) :
    (results fn tmps).run Tryd.prog w = .ok (.tuple #[.agg #[s, fv, bv], v]) w := by
  rw [results_cell_tmp h, hq, hu]
  simp [asAddr, hA.load, Result.andThen]
/-- a value that is a Response, and can be read -/
structure RespParts (fv : Value) (A : Option Addr) (c : Nat) (r : RespL) (w : World) : Prop where
  fields : PairsV fv r.fs w
  body : PieceOk w ⟨A, c, r.body⟩
theorem RespParts.keep {fv : Value} {A : Option Addr} {c : Nat} {r : RespL} {w w' : World} (h : RespParts fv A c r w) (hb : Below w.heap.size w w') : RespParts fv A c r w' := ⟨h.fields.keep hb, h.body.keep hb⟩
/-- .. and lies in memory from a block on -/
structure RespNew (base : Nat) (fv : Value) (A : Option Addr) (c : Nat) (r : RespL) (w : World) : Prop where
  fields : POwn base fv r.fs w
  body : PieceOk w ⟨A, c, r.body⟩
  apart : ∀ k, k < base → Apart A r.body k
theorem RespNew.parts {base : Nat} {fv : Value} {A : Option Addr} {c : Nat} {r : RespL} {w : World} (h : RespNew base fv A c r w) : RespParts fv A c r w := ⟨h.fields.reads, h.body⟩
theorem RespNew.keep {base : Nat} {fv : Value} {A : Option Addr} {c : Nat} {r : RespL} {w w' : World} (h : RespNew base fv A c r w) (hb : Below w.heap.size w w') : RespNew base fv A c r w' := ⟨h.fields.keep hb, h.body.keep hb, h.apart⟩
theorem RespNew.grown {base g : Nat} {fv : Value} {A : Option Addr} {c : Nat} {r : RespL} {w w' : World} (h : RespNew base fv A c r w) (hb : w.grownBy w' (some g)) (hg : g < base) : RespNew base fv A c r w' :=
  ⟨h.fields.block fun i hi => hb.block i (h.fields.lt i hi).2 (fun e => by cases e; have := (h.fields.lt _ hi).1; omega), h.body.grown hb (h.apart g hg), h.apart⟩
theorem RespNew.base {base base' : Nat} {fv : Value} {A : Option Addr} {c : Nat} {r : RespL} {w : World} (h : RespNew base fv A c r w) (hb : base' ≤ base) : RespNew base' fv A c r w := ⟨h.fields.base hb, h.body, fun k hk => h.apart k (by omega)⟩
def respV (r : RespL) (fv : Value) (A : Option Addr) (c : Nat) : Value := .agg #[.int .i64 r.status, fv, .slice A r.body.length c]
theorem RespParts.zero (w : World) : RespParts (.slice none 0 0) none 0 RespZ w :=
  ⟨⟨none, 0, rfl, by simp [RespZ], by omega, fun _ => rfl, PairsAt.nil _ _⟩, piece_nil w⟩
end Go.Proofs.YtolikoediafkkaaDoor

/- Contract of a writer's line (resp): one more line in the row that it holds. -/
namespace Go.Proofs.YtolikoediafkkaaDoor
open Go.ChangeShapes Go.WideShapes Go.ChangeAt Go.RowKit
set_option linter.unusedVariables false
set_option linter.unusedSimpArgs false

theorem strCells_z (l : List UInt8) : Lib.strCells (strOf l) = cellsOf l := rfl
/-- an own row of bytes -/
def BZ (base : Nat) (v : Value) (xs : List UInt8) (w : World) : Prop := w.ownsRow base 5 1 v xs.length (cellsOf xs)
/-- append of a text onto an own row -/
theorem wpList_appZ {w : World} {ops : Array Oper} {rest : List Oper} {o : Oper} {a : Act} {Q : Exit → Act → World → Prop} (hgd : o.guard = none) (s x : Operand)
    (ho : o.op = .call { callee := .builtin .append, args := #[s, x], argTypes := #[23, 9] })
    (base : Nat) (v : Value) (xs : List UInt8) (sz : ByteArray) (hs : a.eval s = v) (hown : BZ base v xs w) (hx : a.eval x = .string sz)
    (hlen : xs.length + sz.size ≤ 140737488355328) (hbase : base ≤ w.heap.size)
    (h : ∀ v' w', BZ base v' (xs ++ sz.data.toList) w' → w.grownBy w' v.ownBlock → wpList Tryd.prog ops Q rest (a.put o.dst v') w') : wpList Tryd.prog ops Q (o :: rest) a w := by
  obtain ⟨i0, hi, hz0, hz1, hz2⟩ := info_parts info_u8
  refine Lib.wpList_append_own_string _ hgd s x 23 9 ho base 5 i0 Tryd.underlying23 Tryd.underlying9 hi hz0 hz1 hz2 v _ _ hs hown sz hx (by unfold maxLen; omega) (by omega) hbase ?_
  intro v' w' h1 h2 _
  refine h v' w' ?_ h2
  have e : Lib.strCells sz = cellsOf sz.data.toList := strCells_z sz.data.toList
  have el : sz.data.toList.length = sz.size := Array.length_toList
  unfold BZ
  rw [cellsOf_append, List.length_append, ← e, el]
  exact h1
/-- what is neither a block nor a row of bytes stays -/
def KeptO (g : Nat) (w w' : World) : Prop := ∀ k o, w.heap[k]? = some o → k ≠ g → (∀ cs fr, o ≠ .cells cs 5 fr) → w'.heap[k]? = some o
theorem KeptO.refl (g : Nat) (w : World) : KeptO g w w := fun k o h _ _ => h
theorem KeptO.trans {g : Nat} {a b c : World} (h : KeptO g a b) (k : KeptO g b c) : KeptO g a c := fun i o ho hg hc => k i o (h i o ho hg hc) hg hc
theorem KeptO.below {g B : Nat} {w w' : World} (h : Below B w w') (hB : w.heap.size ≤ B) : KeptO g w w' := fun k o ho _ _ => (h.block k (by have := (Array.getElem?_eq_some_iff.1 ho).1; omega)).trans ho
theorem KeptO.resp {g q : Nat} {w w' : World} {s fv bv : Value} (h : KeptO g w w') (hq : RCell w q s fv bv) (hg : q ≠ g) : RCell w' q s fv bv :=
  h q _ hq hg (fun cs fr e => by
    have h2 := (Obj.cells.injEq ..).mp e
    exact absurd h2.2.1 (by decide))
/-- a writer that holds a row of these bytes -/
def WSt (B g : Nat) (bs : List UInt8) (w : World) : Prop := ∃ v, w.heap[g]? = some (.cells #[v] 67 (0, 0)) ∧ BZ B v bs w
theorem own_type {w : World} {B n : Nat} {v : Value} {xs : List Value} (h : w.ownsRow B 5 1 v n xs) {k : Nat} (hk : v.ownBlock = some k) : ∃ cs fr, w.heap[k]? = some (.cells cs 5 fr) := by
  rcases h.2 with h0 | ⟨g, cap, cur, rfl, h1, h2, h3⟩
  · rw [h0.1] at hk; simp [Value.ownBlock] at hk
  · simp [Value.ownBlock] at hk
    subst hk
    exact ⟨_, _, h2⟩
theorem WSt.keep {B g : Nat} {bs : List UInt8} {w w' : World} (h : WSt B g bs w) (hb : Below w.heap.size w w') : WSt B g bs w' := by
  obtain ⟨v, h1, h2⟩ := h
  refine ⟨v, (hb.block g (Array.getElem?_eq_some_iff.1 h1).1).trans h1, ?_⟩
  rcases h2.2 with h0 | ⟨k, cap, cur, rfl, e1, e2, e3⟩
  · exact ⟨h2.1, Or.inl h0⟩
  · exact ⟨h2.1, Or.inr ⟨k, cap, cur, rfl, e1, (hb.block k (Array.getElem?_eq_some_iff.1 e2).1).trans e2, e3⟩⟩
theorem own_kept {w w1 : World} {B n : Nat} {v : Value} {xs : List Value} (h : w.ownsRow B 5 1 v n xs) (hg : w.grownBy w1 v.ownBlock) (g : Nat) : KeptO g w w1 := fun k o ho _ hc => by
  refine (hg.block k (Array.getElem?_eq_some_iff.1 ho).1 ?_).trans ho
  intro e
  obtain ⟨cs, fr, h2⟩ := own_type h e.symm
  rw [h2] at ho
  exact hc cs fr (Option.some.inj ho).symm
set_option maxRecDepth 8000 in
set_option maxHeartbeats 1000000 in
theorem line_any (B g : Nat) (bs l : List UInt8) (w : World) (h : WSt B g bs w) (hB : B ≤ g) (hl : bs.length + l.length ≤ 1000000000) :
    Calls Tryd.prog 35 #[.pointer (some ⟨g, 0, none⟩), .string (strOf l)] w fun e w' => e = .returned (.tuple #[]) ∧ WSt B g (bs ++ (l ++ crlf)) w' ∧ Below B w w' ∧ KeptO g w w' := by
  obtain ⟨v, h1, h2⟩ := h
  have hgs : g < w.heap.size := (Array.getElem?_eq_some_iff.1 h1).1
  have c0 : w.cell? ⟨g, 0, none⟩ = some v := by rw [cell_of_row w g 0 _ _ _ h1]; rfl
  have f0 : w.frozen? ⟨g, 0, none⟩ = false := by simp [World.frozen?, h1]
  have e0 : (strOf l ++ ⟨#[13, 10]⟩).data.toList = l ++ crlf := by simp [strOf, crlf]
  have e1 : (strOf l ++ ⟨#[13, 10]⟩).size = l.length + 2 := by
    have : (strOf l ++ ⟨#[13, 10]⟩).size = (strOf l ++ ⟨#[13, 10]⟩).data.toList.length := Array.length_toList.symm
    rw [this, e0]; simp [crlf]
  obtain ⟨S, hS⟩ : ∃ S, strOf l ++ ⟨#[13, 10]⟩ = S := ⟨_, rfl⟩
  rw [hS] at e0 e1
  have HH := hideIt h1
  have HO := hideIt h2
  have HE0 := hideIt e0
  have hsz : (strOf l).size ≤ 1000000000 := by rw [strOf_size]; omega
  obtain ⟨T, hT⟩ : ∃ T, bs ++ (l ++ crlf) = T := ⟨_, rfl⟩
  rw [hT]
  have HT := hideIt hT
  generalize strOf l = sl at *
  clear h1 h2 e0 hT
  go_enter Tryd.func35, Tryd.ntmps35
  go_wp2_with (at_builtin; refine wpList_appZ rfl (.tmp 8) (.tmp 10) rfl B v bs S rfl HO.out (by first | rfl | (simp; exact hS)) (by omega) (by omega) ?_)
  intro v' w1 hown hgrow
  rw [HE0.out, HT.out] at hown
  obtain ⟨A', c', hv', _⟩ := own_open hown
  have hk := own_kept HO.out hgrow g
  have hne : v.ownBlock ≠ some g := fun e => by
    obtain ⟨cs, fr, e2⟩ := own_type HO.out e
    rw [HH.out] at e2
    have h2 := (Obj.cells.injEq ..).mp (Option.some.inj e2)
    exact absurd h2.2.1 (by decide)
  have HH1 : w1.heap[g]? = some (.cells #[v] 67 (0, 0)) := (hgrow.block g hgs (fun e => hne e.symm)).trans HH.out
  have f1 : w1.frozen? ⟨g, 0, none⟩ = false := by simp [World.frozen?, HH1]
  have c1 : w1.cell? ⟨g, 0, none⟩ = some v := by rw [cell_of_row w1 g 0 _ _ _ HH1]; rfl
  have hb1 : Below B w w1 := (Below.refl _ _).grown hgrow (by omega) (fun j hj => by
    rcases HO.out.2 with h0 | ⟨k, cap, cur, rfl, e1, e2, e3⟩
    · rw [h0.1] at hj; simp [Value.ownBlock] at hj
    · simp [Value.ownBlock] at hj; omega)
  have HW : Hid (WSt B g T (w1.setCell ⟨g, 0, none⟩ v')) := hideIt (by
    refine ⟨v', ?_, ?_⟩
    · have hlt := (Array.getElem?_eq_some_iff.1 HH1).1
      have h' : w1.heap[g] = .cells #[v] 67 (0, 0) := (Array.getElem?_eq_some_iff.1 HH1).2
      rw [Array.getElem?_eq_some_iff]
      refine ⟨by simpa [World.setCell] using hlt, ?_⟩
      simp only [World.setCell]
      rw [Array.getElem_modify, if_pos rfl, h']
      rfl
    · have hx : ∀ k, v'.ownBlock = some k → (w1.setCell ⟨g, 0, none⟩ v').heap[k]? = w1.heap[k]? := fun k hk => by
        obtain ⟨cs, fr, e2⟩ := own_type hown hk
        refine heap_setCell_past _ _ _ _ _ (fun e => ?_)
        rw [e, HH1] at e2
        have h2 := (Obj.cells.injEq ..).mp (Option.some.inj e2)
        exact absurd h2.2.1 (by decide)
      rcases hown.2 with h0 | ⟨k, cap, cur, rfl, e1, e2, e3⟩
      · exact ⟨hown.1, Or.inl h0⟩
      · exact ⟨hown.1, Or.inr ⟨k, cap, cur, rfl, e1, (hx k rfl).trans e2, e3⟩⟩)
  have HB : Hid (Below B w (w1.setCell ⟨g, 0, none⟩ v')) := hideIt (hb1.setCell (by exact hB) _)
  have HK : Hid (KeptO g w (w1.setCell ⟨g, 0, none⟩ v')) := hideIt fun k o ho hg hc => (heap_setCell_past _ _ _ _ _ hg).trans (hk k o ho hg hc)
  clear hown hgrow hk hne HH1 hb1
  subst hv'
  generalize T.length = tn at *
  go_wp2
  first | go_end0 | go_ret
  exact ⟨rfl, HW.out, HB.out, HK.out⟩
theorem go_line : goFn Tryd.prog 35 = true := by kernel_rfl
end Go.Proofs.YtolikoediafkkaaDoor

/- Contracts of resp.statuses and resp.Reason: a map that is made, filled and asked. -/
namespace Go.Proofs.YtolikoediafkkaaDoor
open Go.ChangeShapes Go.WideShapes Go.ChangeAt Go.RowKit
set_option linter.unusedVariables false
set_option linter.unusedSimpArgs false

/-- the first entries of the map -/
def entR (n : Nat) : List MapEntry := (reasonsT.take n).mapIdx fun i x => { key := .int .i64 x.1, val := .agg #[.string (strOf x.2)], born := i }
/-- the map, with its first entries -/
def mapR (n : Nat) : Obj := .map (entR n).toArray n
theorem findR (k : Int) (n : Nat) : ∀ (l : List (Int × List UInt8)) (i : Nat),
    Instr.findNow (.int .i64) (.int .i64 k) (l.mapIdx fun i x => { key := .int .i64 x.1, val := .agg #[.string (strOf x.2)], born := n + i }) i =
      match l.find? (fun x => x.1 == k) with
      | none => some none
      | some x => some (some (i + (l.findIdx (fun x => x.1 == k)), .agg #[.string (strOf x.2)])) := by
  intro l
  induction l generalizing n with
  | nil => intro i; simp [Instr.findNow]
  | cons x l ih =>
    intro i
    rw [List.mapIdx_cons]
    by_cases h : x.1 = k
    · have h1 : (x.1 == k) = true := by simpa using h
      have h2 : (k == x.1) = true := by simp [h]
      simp [Instr.findNow, Instr.sameNow, h, List.find?_cons, h1, List.findIdx_cons]
    · have h1 : (x.1 == k) = false := by simpa using h
      have h2 : (k == x.1) = false := by simpa using fun e : k = x.1 => h e.symm
      have e : (fun (i : Nat) (x : Int × List UInt8) => ({ key := .int .i64 x.1, val := .agg #[.string (strOf x.2)], born := n + (i + 1) } : MapEntry)) = fun i x => { key := .int .i64 x.1, val := .agg #[.string (strOf x.2)], born := (n + 1) + i } := by
        funext i x
        rw [show n + (i + 1) = (n + 1) + i by omega]
      simp only [Instr.findNow, Instr.sameNow, h2, if_true, e, ih (n + 1) (i + 1), List.find?_cons, h1, List.findIdx_cons, cond_false]
      cases l.find? (fun x => x.1 == k) with
      | none => rfl
      | some y => simp; omega
theorem setR_alloc (a : Array Obj) (o o' : Obj) : (a.push o).setIfInBounds a.size o' = a.push o' := by
  apply Array.ext
  · simp
  · intro i h1 h2
    have h3 : i < (a.push o).size := by simpa using h1
    rw [Array.getElem_setIfInBounds h3, Array.getElem_push, Array.getElem_push]
    by_cases hi : a.size = i
    · subst hi; simp
    · rw [if_neg hi]
      have : i < a.size := by simp at h3; omega
      simp [this]
theorem run_insR (w : World) (n : Nat) (x : Int × List UInt8) (hx : reasonsT[n]? = some x) (hn : (reasonsT.take n).find? (fun y => y.1 == x.1) = none) :
    (Instr.mapUpdate 61 (.map (some w.heap.size)) (.int .i64 x.1) (.agg #[.string (strOf x.2)])).run Tryd.prog (w.alloc (mapR n)) = .ok () (w.alloc (mapR (n + 1))) := by
  have hb : (w.alloc (mapR n)).heap[w.heap.size]? = some (.map (entR n).toArray n) := heap_alloc_new w _
  have hk : MapKept.IsKey (.int .i64) (Value.int .i64 x.1) := rfl
  have h1 : Instr.findNow (.int .i64) (.int .i64 x.1) (entR n).toArray.toList 0 = some none := by
    have := findR x.1 0 (reasonsT.take n) 0
    rw [hn] at this
    simpa [entR] using this
  simp [Instr.mapUpdate, run_underlying Tryd.underlying61, MapKept.run_getObj_map hb, MapKept.run_checkKey Tryd.underlying3 hk, MapKept.run_findKey Tryd.underlying3 h1, MapKept.run_setObj_map _ hb, Result.andThen]
  have e : entR (n + 1) = entR n ++ [{ key := .int .i64 x.1, val := .agg #[.string (strOf x.2)], born := n }] := by
    have hl : n < reasonsT.length := (List.getElem?_eq_some_iff.1 hx).1
    have hg : reasonsT[n] = x := (List.getElem?_eq_some_iff.1 hx).2
    unfold entR
    rw [← List.take_append_getElem hl, List.mapIdx_append, hg]
    simp [Nat.min_eq_left (Nat.le_of_lt hl)]
  have hh : (w.alloc (mapR n)).heap = w.heap.push (mapR n) := rfl
  rw [hh, setR_alloc]
  unfold mapR
  rw [e]
  rfl
theorem run_mapR (w : World) : (Instr.makeMap 61 none).run Tryd.prog w = .ok (.map (some w.heap.size)) (w.alloc (mapR 0)) := rfl
theorem run_askR (w : World) (s : Int) : (Instr.lookup 61 (.map (some w.heap.size)) (.int .i64 s) false).run Tryd.prog (w.alloc (mapR 12)) = .ok (.agg #[.string (strOf (reasonL s))]) (w.alloc (mapR 12)) := by
  have hb : (w.alloc (mapR 12)).heap[w.heap.size]? = some (.map (entR 12).toArray 12) := heap_alloc_new w _
  have hk : MapKept.IsKey (.int .i64) (Value.int .i64 s) := rfl
  have h0 := findR s 0 reasonsT 0
  have e12 : (entR 12).toArray.toList = reasonsT.mapIdx fun i x => { key := .int .i64 x.1, val := .agg #[.string (strOf x.2)], born := 0 + i } := by
    simp [entR, reasonsT]
  rw [← e12] at h0
  unfold reasonL
  cases hf : reasonsT.find? (fun x => x.1 == s) with
  | none =>
    rw [hf] at h0
    have hz := Tryd.zeroValue60
    simp [Instr.lookup, run_underlying Tryd.underlying61, MapKept.run_getObj_map hb, MapKept.run_checkKey Tryd.underlying3 hk, MapKept.run_findKey Tryd.underlying3 h0, hz, Result.andThen]
    rfl
  | some x =>
    rw [hf] at h0
    simp [Instr.lookup, run_underlying Tryd.underlying61, MapKept.run_getObj_map hb, MapKept.run_checkKey Tryd.underlying3 hk, MapKept.run_findKey Tryd.underlying3 h0, Result.andThen]
set_option maxRecDepth 8000 in
set_option maxHeartbeats 2000000 in
theorem statuses_any (w : World) : Calls Tryd.prog 30 #[] w fun e w' => e = .returned (.map (some w.heap.size)) ∧ w' = w.alloc (mapR 12) := by
  have hmm := run_mapR w
  have i0 : (Instr.mapUpdate 61 (.map (some w.heap.size)) (.int .i64 200) (.agg #[.string ⟨#[79, 75]⟩])).run Tryd.prog (w.alloc (mapR 0)) = .ok () (w.alloc (mapR 1)) := run_insR w 0 (200, [79, 75]) rfl (by decide +kernel)
  have i1 : (Instr.mapUpdate 61 (.map (some w.heap.size)) (.int .i64 303) (.agg #[.string ⟨#[83, 101, 101, 32, 79, 116, 104, 101, 114]⟩])).run Tryd.prog (w.alloc (mapR 1)) = .ok () (w.alloc (mapR 2)) := run_insR w 1 (303, [83, 101, 101, 32, 79, 116, 104, 101, 114]) rfl (by decide +kernel)
  have i2 : (Instr.mapUpdate 61 (.map (some w.heap.size)) (.int .i64 400) (.agg #[.string ⟨#[66, 97, 100, 32, 82, 101, 113, 117, 101, 115, 116]⟩])).run Tryd.prog (w.alloc (mapR 2)) = .ok () (w.alloc (mapR 3)) := run_insR w 2 (400, [66, 97, 100, 32, 82, 101, 113, 117, 101, 115, 116]) rfl (by decide +kernel)
  have i3 : (Instr.mapUpdate 61 (.map (some w.heap.size)) (.int .i64 401) (.agg #[.string ⟨#[85, 110, 97, 117, 116, 104, 111, 114, 105, 122, 101, 100]⟩])).run Tryd.prog (w.alloc (mapR 3)) = .ok () (w.alloc (mapR 4)) := run_insR w 3 (401, [85, 110, 97, 117, 116, 104, 111, 114, 105, 122, 101, 100]) rfl (by decide +kernel)
  have i4 : (Instr.mapUpdate 61 (.map (some w.heap.size)) (.int .i64 403) (.agg #[.string ⟨#[70, 111, 114, 98, 105, 100, 100, 101, 110]⟩])).run Tryd.prog (w.alloc (mapR 4)) = .ok () (w.alloc (mapR 5)) := run_insR w 4 (403, [70, 111, 114, 98, 105, 100, 100, 101, 110]) rfl (by decide +kernel)
  have i5 : (Instr.mapUpdate 61 (.map (some w.heap.size)) (.int .i64 404) (.agg #[.string ⟨#[78, 111, 116, 32, 70, 111, 117, 110, 100]⟩])).run Tryd.prog (w.alloc (mapR 5)) = .ok () (w.alloc (mapR 6)) := run_insR w 5 (404, [78, 111, 116, 32, 70, 111, 117, 110, 100]) rfl (by decide +kernel)
  have i6 : (Instr.mapUpdate 61 (.map (some w.heap.size)) (.int .i64 405) (.agg #[.string ⟨#[77, 101, 116, 104, 111, 100, 32, 78, 111, 116, 32, 65, 108, 108, 111, 119, 101, 100]⟩])).run Tryd.prog (w.alloc (mapR 6)) = .ok () (w.alloc (mapR 7)) := run_insR w 6 (405, [77, 101, 116, 104, 111, 100, 32, 78, 111, 116, 32, 65, 108, 108, 111, 119, 101, 100]) rfl (by decide +kernel)
  have i7 : (Instr.mapUpdate 61 (.map (some w.heap.size)) (.int .i64 409) (.agg #[.string ⟨#[67, 111, 110, 102, 108, 105, 99, 116]⟩])).run Tryd.prog (w.alloc (mapR 7)) = .ok () (w.alloc (mapR 8)) := run_insR w 7 (409, [67, 111, 110, 102, 108, 105, 99, 116]) rfl (by decide +kernel)
  have i8 : (Instr.mapUpdate 61 (.map (some w.heap.size)) (.int .i64 413) (.agg #[.string ⟨#[67, 111, 110, 116, 101, 110, 116, 32, 84, 111, 111, 32, 76, 97, 114, 103, 101]⟩])).run Tryd.prog (w.alloc (mapR 8)) = .ok () (w.alloc (mapR 9)) := run_insR w 8 (413, [67, 111, 110, 116, 101, 110, 116, 32, 84, 111, 111, 32, 76, 97, 114, 103, 101]) rfl (by decide +kernel)
  have i9 : (Instr.mapUpdate 61 (.map (some w.heap.size)) (.int .i64 429) (.agg #[.string ⟨#[84, 111, 111, 32, 77, 97, 110, 121, 32, 82, 101, 113, 117, 101, 115, 116, 115]⟩])).run Tryd.prog (w.alloc (mapR 9)) = .ok () (w.alloc (mapR 10)) := run_insR w 9 (429, [84, 111, 111, 32, 77, 97, 110, 121, 32, 82, 101, 113, 117, 101, 115, 116, 115]) rfl (by decide +kernel)
  have i10 : (Instr.mapUpdate 61 (.map (some w.heap.size)) (.int .i64 431) (.agg #[.string ⟨#[82, 101, 113, 117, 101, 115, 116, 32, 72, 101, 97, 100, 101, 114, 32, 70, 105, 101, 108, 100, 115, 32, 84, 111, 111, 32, 76, 97, 114, 103, 101]⟩])).run Tryd.prog (w.alloc (mapR 10)) = .ok () (w.alloc (mapR 11)) := run_insR w 10 (431, [82, 101, 113, 117, 101, 115, 116, 32, 72, 101, 97, 100, 101, 114, 32, 70, 105, 101, 108, 100, 115, 32, 84, 111, 111, 32, 76, 97, 114, 103, 101]) rfl (by decide +kernel)
  have i11 : (Instr.mapUpdate 61 (.map (some w.heap.size)) (.int .i64 503) (.agg #[.string ⟨#[83, 101, 114, 118, 105, 99, 101, 32, 85, 110, 97, 118, 97, 105, 108, 97, 98, 108, 101]⟩])).run Tryd.prog (w.alloc (mapR 11)) = .ok () (w.alloc (mapR 12)) := run_insR w 11 (503, [83, 101, 114, 118, 105, 99, 101, 32, 85, 110, 97, 118, 97, 105, 108, 97, 98, 108, 101]) rfl (by decide +kernel)
  go_enter Tryd.func30, Tryd.ntmps30
  go_wp2
  go_ret
  exact ⟨rfl, rfl⟩
theorem go_statuses : goFn Tryd.prog 30 = true := by kernel_rfl
theorem run_calledR (R : ByteArray) (w : World) : (Instr.field 60 (.agg #[.string R]) 0).run Tryd.prog w = .ok (.string R) w := by
  simp only [Instr.field]
  go_simp
  simp [asAgg, Result.andThen]
set_option maxRecDepth 8000 in
theorem reason_any (s : Int) (w : World) : Calls Tryd.prog 15 #[.int .i64 s] w fun e w' => e = .returned (.string (strOf (reasonL s))) ∧ Below w.heap.size w w' := by
  have H := hideIt (statuses_any w)
  have hl := run_askR w s
  have hf := fun R => run_calledR R (w.alloc (mapR 12))
  have HB := hideIt (below_new w (mapR 12))
  generalize strOf (reasonL s) = R at *
  go_enter Tryd.func15, Tryd.ntmps15
  go_wp2_with fail
  refine H.out.mono ?_
  rintro e w2 ⟨rfl, rfl⟩
  go_wp2_with fail
  go_ret
  exact ⟨rfl, HB.out⟩
theorem go_reason : goFn Tryd.prog 15 = true := by kernel_rfl
end Go.Proofs.YtolikoediafkkaaDoor

/- A Response's cells, read in a region by an invariant; strconv.Itoa and Reason there. -/
namespace Go.Proofs.YtolikoediafkkaaDoor
open Go.ChangeShapes Go.WideShapes Go.ChangeAt Go.RowKit
set_option linter.unusedVariables false
set_option linter.unusedSimpArgs false

section
variable {ops : Array Oper} {Q : Exit → Act → World → Prop} {o : Oper} {a : Act} {w : World}
theorem ok_fieldR0 (hg : Region.wanted o (yielded ops a.tmps) = true) (x : Operand) (ho : o.op = .fieldAddr 25 x 0) (b off : Nat) (h1 : a.eval x = .pointer (some ⟨b, off, none⟩)) : StepOk Tryd.prog ops Q (Fact.is (.pointer (some ⟨b, off, none⟩))) o a w := by
  refine ok_same hg _ ?_ rfl
  simp only [execOp, ho, h1]
  go_simp
theorem ok_fieldR1 (hg : Region.wanted o (yielded ops a.tmps) = true) (x : Operand) (ho : o.op = .fieldAddr 25 x 1) (b off : Nat) (h1 : a.eval x = .pointer (some ⟨b, off, none⟩)) : StepOk Tryd.prog ops Q (Fact.is (.pointer (some ⟨b, off + 1, none⟩))) o a w := by
  refine ok_same hg _ ?_ rfl
  simp only [execOp, ho, h1]
  go_simp
theorem ok_fieldR2 (hg : Region.wanted o (yielded ops a.tmps) = true) (x : Operand) (ho : o.op = .fieldAddr 25 x 2) (b off : Nat) (h1 : a.eval x = .pointer (some ⟨b, off, none⟩)) : StepOk Tryd.prog ops Q (Fact.is (.pointer (some ⟨b, off + 2, none⟩))) o a w := by
  refine ok_same hg _ ?_ rfl
  simp only [execOp, ho, h1]
  go_simp
theorem ok_loadI (hg : Region.wanted o (yielded ops a.tmps) = true) (x : Operand) (ho : o.op = .load 3 x) (p : Addr) (v : Value) (h1 : a.eval x = .pointer (some p)) (hc : w.cell? p = some v) : StepOk Tryd.prog ops Q (Fact.is v) o a w := by
  refine ok_same hg _ ?_ rfl
  simp only [execOp, ho, h1]
  go_simp
theorem ok_loadPv (hg : Region.wanted o (yielded ops a.tmps) = true) (x : Operand) (ho : o.op = .load 22 x) (p : Addr) (v : Value) (h1 : a.eval x = .pointer (some p)) (hc : w.cell? p = some v) : StepOk Tryd.prog ops Q (Fact.is v) o a w := by
  refine ok_same hg _ ?_ rfl
  simp only [execOp, ho, h1]
  go_simp
theorem ok_loadBv (hg : Region.wanted o (yielded ops a.tmps) = true) (x : Operand) (ho : o.op = .load 23 x) (p : Addr) (v : Value) (h1 : a.eval x = .pointer (some p)) (hc : w.cell? p = some v) : StepOk Tryd.prog ops Q (Fact.is v) o a w := by
  refine ok_same hg _ ?_ rfl
  simp only [execOp, ho, h1]
  go_simp
end
theorem below_thenB {B : Nat} {a b c : World} (h : Below B a b) (hB : B ≤ b.heap.size) (k : Below b.heap.size b c) : Below B a c := h.trans (k.mono hB)
theorem BZ.keep {B : Nat} {v : Value} {xs : List UInt8} {w w' : World} (h : BZ B v xs w) (hb : Below w.heap.size w w') : BZ B v xs w' := by
  rcases h.2 with h0 | ⟨k, cap, cur, rfl, e1, e2, e3⟩
  · exact ⟨h.1, Or.inl h0⟩
  · exact ⟨h.1, Or.inr ⟨k, cap, cur, rfl, e1, (hb.block k (Array.getElem?_eq_some_iff.1 e2).1).trans e2, e3⟩⟩
theorem go_itoa : goFn Tryd.prog 27 = true := by kernel_rfl
theorem badF_at {fs : List PairL} {j : Nat} {x : PairL} (h : ∀ y ∈ fs.take j, (printF y).2 = 0) (hx : fs[j]? = some x) (hb : (printF x).2 ≠ 0) : badF fs = some x := by
  obtain ⟨h1, h2⟩ := List.getElem?_eq_some_iff.1 hx
  have e : fs = fs.take j ++ x :: fs.drop (j + 1) := by
    rw [← h2, ← List.drop_eq_getElem_cons h1, List.take_append_drop]
  unfold badF
  rw [e, List.find?_append]
  have h0 : (fs.take j).find? (fun p => decide ((printF p).2 ≠ 0)) = none := List.find?_eq_none.2 fun y hy => by simp [h y hy]
  rw [h0, List.find?_cons]
  simp [hb]
theorem badF_all {fs : List PairL} (h : ∀ y ∈ fs, (printF y).2 = 0) : badF fs = none := List.find?_eq_none.2 fun y hy => by simp [h y hy]
/-- what is written when j fields are -/
def doneR (r : RespL) (j : Nat) : List UInt8 := linesJ (firstR r.status :: (r.fs.take j).map lineP)
theorem linesJ_one (x : List UInt8) : linesJ [x] = x ++ crlf := by simp [linesJ]
theorem doneR_zero (r : RespL) : doneR r 0 = firstR r.status ++ crlf := by
  unfold doneR
  rw [List.take_zero, List.map_nil, linesJ_one]
theorem doneR_succ (r : RespL) (j : Nat) (x : PairL) (hx : r.fs[j]? = some x) : doneR r (j + 1) = doneR r j ++ (lineP x ++ crlf) := by
  obtain ⟨h1, h2⟩ := List.getElem?_eq_some_iff.1 hx
  unfold doneR
  rw [List.take_succ_eq_append_getElem h1, h2, List.map_append, List.map_cons, List.map_nil, show firstR r.status :: ((r.fs.take j).map lineP ++ [lineP x]) = (firstR r.status :: (r.fs.take j).map lineP) ++ [lineP x] from rfl, linesJ_app2, linesJ_one]
theorem doneR_all (r : RespL) : doneR r r.fs.length ++ (lengLine r.body.length ++ crlf) = linesJ (headR r) := by
  unfold doneR headR
  rw [List.take_length, show firstR r.status :: (r.fs.map lineP ++ [lengLine r.body.length]) = (firstR r.status :: r.fs.map lineP) ++ [lengLine r.body.length] from rfl, linesJ_app2, linesJ_one]
theorem doneR_len {r : RespL} (hs : reasonL r.status ≠ []) (hf : r.fs.length ≤ 40) {j : Nat} (h : ∀ y ∈ r.fs.take j, (printF y).2 = 0) : (doneR r j).length ≤ 90000 := by
  have a1 := linesP_most h
  have a2 := (first_fine hs).2.2.1
  have a3 : (r.fs.take j).length * 2002 ≤ 40 * 2002 := Nat.mul_le_mul_right _ (by rw [List.length_take]; omega)
  unfold doneR
  rw [linesJ_cons]
  generalize linesJ ((r.fs.take j).map lineP) = M at *
  simp only [List.length_append, crlf, List.length_cons, List.length_nil]
  omega
/-- a status that has a reason is a number -/
theorem status_nat {s : Int} (h : reasonL s ≠ []) : ∃ n : Nat, s = (n : Int) ∧ n ≤ 999 := by
  refine reason_each (p := fun s => ∃ n : Nat, s = (n : Int) ∧ n ≤ 999) ?_ h
  intro s hs
  simp only [reasonsT, List.map_cons, List.map_nil, List.mem_cons, List.not_mem_nil, or_false] at hs
  rcases hs with rfl | rfl | rfl | rfl | rfl | rfl | rfl | rfl | rfl | rfl | rfl | rfl <;> exact ⟨_, rfl, by decide⟩
end Go.Proofs.YtolikoediafkkaaDoor
