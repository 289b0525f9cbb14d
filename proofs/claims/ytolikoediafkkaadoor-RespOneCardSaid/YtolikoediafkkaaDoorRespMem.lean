/- A Response in a block of its own: reading and writing it, as a function's answer. -/
import Derived.Test.YtolikoediafkkaaDoorRespPlain
import Derived.Test.YtolikoediafkkaaDoorBClone
import Derived.Test.YtolikoediafkkaaDoorPairCell
import Derived.Test.YtolikoediafkkaaDoorStrFacts
import Derived.Laws.ResultCell
import Derived.Laws.Rows
import Derived.Lib.SliceRun
namespace Go.Proofs.YtolikoediafkkaaDoor
open Go.ChangeShapes Go.WideShapes Go.ChangeAt Go.RowKit
set_option linter.unusedVariables false
set_option linter.unusedSimpArgs false

/-- a Response's three cells in a block -/
def RCell (w : World) (g : Nat) (s fv bv : Value) : Prop := w.heap[g]? = some (.cells #[s, fv, bv] 25 (0, 0))
theorem RCell.lt {w : World} {g : Nat} {s fv bv : Value} (h : RCell w g s fv bv) : g < w.heap.size := (Array.getElem?_eq_some_iff.1 h).1
theorem RCell.c0 {w : World} {g : Nat} {s fv bv : Value} (h : RCell w g s fv bv) : w.cell? ⟨g, 0, none⟩ = some s := by rw [cell_of_row w g 0 _ _ _ h]; rfl
theorem RCell.c1 {w : World} {g : Nat} {s fv bv : Value} (h : RCell w g s fv bv) : w.cell? ⟨g, 1, none⟩ = some fv := by rw [cell_of_row w g 1 _ _ _ h]; rfl
theorem RCell.c2 {w : World} {g : Nat} {s fv bv : Value} (h : RCell w g s fv bv) : w.cell? ⟨g, 2, none⟩ = some bv := by rw [cell_of_row w g 2 _ _ _ h]; rfl
theorem RCell.fz {w : World} {g : Nat} {s fv bv : Value} (h : RCell w g s fv bv) (i : Nat) : w.frozen? ⟨g, i, none⟩ = false := by unfold RCell at h; simp [World.frozen?, h]
theorem RCell.keep {w w' : World} {g B : Nat} {s fv bv : Value} (h : RCell w g s fv bv) (hb : Below B w w') (hg : g < B) : RCell w' g s fv bv := (hb.block g hg).trans h
theorem RCell.new (w : World) (s fv bv : Value) : RCell (w.alloc (.cells #[s, fv, bv] 25)) w.heap.size s fv bv := heap_alloc_new w _
/-- a new Response's cells -/
def zeroR : Obj := .cells #[.int .i64 0, .slice none 0 0, .slice none 0 0] 25
theorem RCell.zero (w : World) : RCell (w.alloc zeroR) w.heap.size (.int .i64 0) (.slice none 0 0) (.slice none 0 0) := heap_alloc_new w _
theorem RCell.set {w : World} {g : Nat} {s fv bv : Value} (h : RCell w g s fv bv) (s' fv' bv' : Value) : RCell (((w.setCell ⟨g, 0, none⟩ s').setCell ⟨g, 1, none⟩ fv').setCell ⟨g, 2, none⟩ bv') g s' fv' bv' := by
  have hlt := h.lt
  unfold RCell at h ⊢
  have h' : w.heap[g] = .cells #[s, fv, bv] 25 (0, 0) := (Array.getElem?_eq_some_iff.1 h).2
  rw [Array.getElem?_eq_some_iff]
  refine ⟨by simpa [World.setCell] using hlt, ?_⟩
  simp only [World.setCell]
  rw [Array.getElem_modify, if_pos rfl, Array.getElem_modify, if_pos rfl, Array.getElem_modify, if_pos rfl, h']
  rfl
theorem RCell.set0 {w : World} {g : Nat} {s fv bv : Value} (h : RCell w g s fv bv) (s' : Value) : RCell (w.setCell ⟨g, 0, none⟩ s') g s' fv bv := by
  have hlt := h.lt
  unfold RCell at h ⊢
  have h' : w.heap[g] = .cells #[s, fv, bv] 25 (0, 0) := (Array.getElem?_eq_some_iff.1 h).2
  rw [Array.getElem?_eq_some_iff]
  refine ⟨by simpa [World.setCell] using hlt, ?_⟩
  simp only [World.setCell]
  rw [Array.getElem_modify, if_pos rfl, h']
  rfl
theorem RCell.set1 {w : World} {g : Nat} {s fv bv : Value} (h : RCell w g s fv bv) (fv' : Value) : RCell (w.setCell ⟨g, 1, none⟩ fv') g s fv' bv := by
  have hlt := h.lt
  unfold RCell at h ⊢
  have h' : w.heap[g] = .cells #[s, fv, bv] 25 (0, 0) := (Array.getElem?_eq_some_iff.1 h).2
  rw [Array.getElem?_eq_some_iff]
  refine ⟨by simpa [World.setCell] using hlt, ?_⟩
  simp only [World.setCell]
  rw [Array.getElem_modify, if_pos rfl, h']
  rfl
theorem below_setR {w w' : World} {B g : Nat} (h : Below B w w') (hg : B ≤ g) (s fv bv : Value) : Below B w (((w'.setCell ⟨g, 0, none⟩ s).setCell ⟨g, 1, none⟩ fv).setCell ⟨g, 2, none⟩ bv) :=
  ((h.setCell (by exact hg) s).setCell (by exact hg) fv).setCell (by exact hg) bv
theorem grown_setR (w : World) (g : Nat) (s fv bv : Value) : w.grownBy (((w.setCell ⟨g, 0, none⟩ s).setCell ⟨g, 1, none⟩ fv).setCell ⟨g, 2, none⟩ bv) (some g) :=
  ⟨rfl, rfl, rfl, by simp [World.setCell], fun k hk hne => by
    have hkg : g ≠ k := fun e => hne (by rw [e])
    simp only [World.setCell]
    rw [Array.getElem?_modify, if_neg hkg, Array.getElem?_modify, if_neg hkg, Array.getElem?_modify, if_neg hkg]⟩
theorem RCell.load {w : World} {g : Nat} {s fv bv : Value} (h : RCell w g s fv bv) : (loadVar 25 ⟨g, 0, none⟩).run Tryd.prog w = .ok (.agg #[s, fv, bv]) w :=
  run_loadVar_row (P := Tryd.prog) w g 25 25 _ (0, 0) _ h Tryd.underlying25 rfl (by kernel_rfl)
/-- an answer: a Response in a cell -/
theorem results_R {fn : Func} {q : Tmp} (h : fn.results = #[.cell q 25]) (tmps : Array Value) (w : World) (g : Nat) (s fv bv : Value) (hq : tmps.getD q undef = .pointer (some ⟨g, 0, none⟩)) (hA : RCell w g s fv bv) :
    (results fn tmps).run Tryd.prog w = .ok (.agg #[s, fv, bv]) w := by
  have e : (results fn tmps).run Tryd.prog w = ((asAddr (tmps.getD q undef)).run Tryd.prog w).andThen fun a w₁ => (loadVar 25 a).run Tryd.prog w₁ := by
    simp only [results, h]
    simp [Sem.run_bind, Result.andThen]
  rw [e, hq]
  simp [asAddr, hA.load, Result.andThen]
/-- an answer: a Response in a cell, and a value -/
theorem results_R2 {fn : Func} {q u : Tmp} (h : fn.results = #[.cell q 25, .tmp u]) (tmps : Array Value) (w : World) (g : Nat) (s fv bv v : Value) (hq : tmps.getD q undef = .pointer (some ⟨g, 0, none⟩)) (hu : tmps.getD u undef = v) (hA : RCell w g s fv bv) :
    (results fn tmps).run Tryd.prog w = .ok (.tuple #[.agg #[s, fv, bv], v]) w := by
  rw [results_cell_tmp h, hq, hu]
  simp [asAddr, hA.load, Result.andThen]
/-- a value that is a Response, and can be read -/
structure RespParts (fv : Value) (A : Option Addr) (c : Nat) (r : RespL) (w : World) : Prop where
  fields : PairsV fv r.fs w
  body : PieceOk w ⟨A, c, r.body⟩
theorem RespParts.keep {fv : Value} {A : Option Addr} {c : Nat} {r : RespL} {w w' : World} (h : RespParts fv A c r w) (hb : Below w.heap.size w w') : RespParts fv A c r w' := ⟨h.fields.keep hb, h.body.keep hb⟩
/-- .. and lies in memory from a block on -/
structure RespNew (base : Nat) (fv : Value) (A : Option Addr) (c : Nat) (r : RespL) (w : World) : Prop where
  fields : POwn base fv r.fs w
  body : PieceOk w ⟨A, c, r.body⟩
  apart : ∀ k, k < base → Apart A r.body k
theorem RespNew.parts {base : Nat} {fv : Value} {A : Option Addr} {c : Nat} {r : RespL} {w : World} (h : RespNew base fv A c r w) : RespParts fv A c r w := ⟨h.fields.reads, h.body⟩
theorem RespNew.keep {base : Nat} {fv : Value} {A : Option Addr} {c : Nat} {r : RespL} {w w' : World} (h : RespNew base fv A c r w) (hb : Below w.heap.size w w') : RespNew base fv A c r w' := ⟨h.fields.keep hb, h.body.keep hb, h.apart⟩
theorem RespNew.grown {base g : Nat} {fv : Value} {A : Option Addr} {c : Nat} {r : RespL} {w w' : World} (h : RespNew base fv A c r w) (hb : w.grownBy w' (some g)) (hg : g < base) : RespNew base fv A c r w' :=
  ⟨h.fields.block fun i hi => hb.block i (h.fields.lt i hi).2 (fun e => by cases e; have := (h.fields.lt _ hi).1; omega), h.body.grown hb (h.apart g hg), h.apart⟩
theorem RespNew.base {base base' : Nat} {fv : Value} {A : Option Addr} {c : Nat} {r : RespL} {w : World} (h : RespNew base fv A c r w) (hb : base' ≤ base) : RespNew base' fv A c r w := ⟨h.fields.base hb, h.body, fun k hk => h.apart k (by omega)⟩
def respV (r : RespL) (fv : Value) (A : Option Addr) (c : Nat) : Value := .agg #[.int .i64 r.status, fv, .slice A r.body.length c]
theorem RespParts.zero (w : World) : RespParts (.slice none 0 0) none 0 RespZ w :=
  ⟨⟨none, 0, rfl, by simp [RespZ], by omega, fun _ => rfl, PairsAt.nil _ _⟩, piece_nil w⟩
end Go.Proofs.YtolikoediafkkaaDoor
