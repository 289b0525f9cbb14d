/- A Request in a block of its own: reading and writing it, as a function's answer; bytes.Clone. And what was ReqCell. -/
import Derived.Test.YtbojigimldfghaaDoorHttpPlain
import Derived.Test.YtbojigimldfghaaDoorHttpUntil
import Derived.Test.YtbojigimldfghaaDoorPairCell
import Derived.Test.YtbojigimldfghaaDoorStrFacts
import Derived.Laws.ResultCell
import Derived.Laws.Rows
import Derived.Lib.SliceRun
namespace Go.Proofs.YtbojigimldfghaaDoor
open Go.ChangeShapes Go.WideShapes Go.ChangeAt Go.RowKit
set_option linter.unusedVariables false
set_option linter.unusedSimpArgs false

/-- a Request's four cells in a block -/
def QCell (w : World) (g : Nat) (m p fv bv : Value) : Prop := w.heap[g]? = some (.cells #[m, p, fv, bv] 33 (0, 0))
theorem QCell.lt {w : World} {g : Nat} {m p fv bv : Value} (h : QCell w g m p fv bv) : g < w.heap.size := (Array.getElem?_eq_some_iff.1 h).1
theorem QCell.c0 {w : World} {g : Nat} {m p fv bv : Value} (h : QCell w g m p fv bv) : w.cell? ⟨g, 0, none⟩ = some m := by rw [cell_of_row w g 0 _ _ _ h]; rfl
theorem QCell.c1 {w : World} {g : Nat} {m p fv bv : Value} (h : QCell w g m p fv bv) : w.cell? ⟨g, 1, none⟩ = some p := by rw [cell_of_row w g 1 _ _ _ h]; rfl
theorem QCell.c2 {w : World} {g : Nat} {m p fv bv : Value} (h : QCell w g m p fv bv) : w.cell? ⟨g, 2, none⟩ = some fv := by rw [cell_of_row w g 2 _ _ _ h]; rfl
theorem QCell.c3 {w : World} {g : Nat} {m p fv bv : Value} (h : QCell w g m p fv bv) : w.cell? ⟨g, 3, none⟩ = some bv := by rw [cell_of_row w g 3 _ _ _ h]; rfl
theorem QCell.fz {w : World} {g : Nat} {m p fv bv : Value} (h : QCell w g m p fv bv) (i : Nat) : w.frozen? ⟨g, i, none⟩ = false := by unfold QCell at h; simp [World.frozen?, h]
theorem QCell.keep {w w' : World} {g B : Nat} {m p fv bv : Value} (h : QCell w g m p fv bv) (hb : Below B w w') (hg : g < B) : QCell w' g m p fv bv := (hb.block g hg).trans h
theorem QCell.new (w : World) (m p fv bv : Value) : QCell (w.alloc (.cells #[m, p, fv, bv] 33)) w.heap.size m p fv bv := heap_alloc_new w _
/-- a Request as it is made: nothing -/
def zeroQ : Obj := .cells #[.string ⟨#[]⟩, .string ⟨#[]⟩, .slice none 0 0, .slice none 0 0] 33
theorem QCell.zero (w : World) : QCell (w.alloc zeroQ) w.heap.size (.string ⟨#[]⟩) (.string ⟨#[]⟩) (.slice none 0 0) (.slice none 0 0) := heap_alloc_new w _
theorem QCell.set {w : World} {g : Nat} {m p fv bv : Value} (h : QCell w g m p fv bv) (m' p' fv' bv' : Value) : QCell ((((w.setCell ⟨g, 0, none⟩ m').setCell ⟨g, 1, none⟩ p').setCell ⟨g, 2, none⟩ fv').setCell ⟨g, 3, none⟩ bv') g m' p' fv' bv' := by
  have hlt := h.lt
  unfold QCell at h ⊢
  have h' : w.heap[g] = .cells #[m, p, fv, bv] 33 (0, 0) := (Array.getElem?_eq_some_iff.1 h).2
  rw [Array.getElem?_eq_some_iff]
  refine ⟨by simpa [World.setCell] using hlt, ?_⟩
  simp only [World.setCell]
  rw [Array.getElem_modify, if_pos rfl, Array.getElem_modify, if_pos rfl, Array.getElem_modify, if_pos rfl, Array.getElem_modify, if_pos rfl, h']
  rfl
theorem QCell.set2 {w : World} {g : Nat} {m p fv bv : Value} (h : QCell w g m p fv bv) (fv' : Value) : QCell (w.setCell ⟨g, 2, none⟩ fv') g m p fv' bv := by
  have hlt := h.lt
  unfold QCell at h ⊢
  have h' : w.heap[g] = .cells #[m, p, fv, bv] 33 (0, 0) := (Array.getElem?_eq_some_iff.1 h).2
  rw [Array.getElem?_eq_some_iff]
  refine ⟨by simpa [World.setCell] using hlt, ?_⟩
  simp only [World.setCell]
  rw [Array.getElem_modify, if_pos rfl, h']
  rfl
theorem QCell.set3 {w : World} {g : Nat} {m p fv bv : Value} (h : QCell w g m p fv bv) (bv' : Value) : QCell (w.setCell ⟨g, 3, none⟩ bv') g m p fv bv' := by
  have hlt := h.lt
  unfold QCell at h ⊢
  have h' : w.heap[g] = .cells #[m, p, fv, bv] 33 (0, 0) := (Array.getElem?_eq_some_iff.1 h).2
  rw [Array.getElem?_eq_some_iff]
  refine ⟨by simpa [World.setCell] using hlt, ?_⟩
  simp only [World.setCell]
  rw [Array.getElem_modify, if_pos rfl, h']
  rfl
theorem below_setQ {w w' : World} {B g : Nat} (h : Below B w w') (hg : B ≤ g) (m p fv bv : Value) : Below B w ((((w'.setCell ⟨g, 0, none⟩ m).setCell ⟨g, 1, none⟩ p).setCell ⟨g, 2, none⟩ fv).setCell ⟨g, 3, none⟩ bv) :=
  (((h.setCell (by exact hg) m).setCell (by exact hg) p).setCell (by exact hg) fv).setCell (by exact hg) bv
theorem grown_setQ (w : World) (g : Nat) (m p fv bv : Value) : w.grownBy ((((w.setCell ⟨g, 0, none⟩ m).setCell ⟨g, 1, none⟩ p).setCell ⟨g, 2, none⟩ fv).setCell ⟨g, 3, none⟩ bv) (some g) :=
  ⟨rfl, rfl, rfl, by simp [World.setCell], fun k hk hne => by
    have hkg : g ≠ k := fun e => hne (by rw [e])
    simp only [World.setCell]
    rw [Array.getElem?_modify, if_neg hkg, Array.getElem?_modify, if_neg hkg, Array.getElem?_modify, if_neg hkg, Array.getElem?_modify, if_neg hkg]⟩
theorem QCell.load {w : World} {g : Nat} {m p fv bv : Value} (h : QCell w g m p fv bv) : (loadVar 33 ⟨g, 0, none⟩).run Tryd.prog w = .ok (.agg #[m, p, fv, bv]) w :=
  run_loadVar_row (P := Tryd.prog) w g 33 33 _ (0, 0) _ h Tryd.underlying33 rfl (by kernel_rfl)
/-- an answer: a Request in a cell -/
theorem results_Q {fn : Func} {q : Tmp} (h : fn.results = #[.cell q 33]) (tmps : Array Value) (w : World) (g : Nat) (m p fv bv : Value) (hq : tmps.getD q undef = .pointer (some ⟨g, 0, none⟩)) (hA : QCell w g m p fv bv) :
    (results fn tmps).run Tryd.prog w = .ok (.agg #[m, p, fv, bv]) w := by
  have e : (results fn tmps).run Tryd.prog w = ((asAddr (tmps.getD q undef)).run Tryd.prog w).andThen fun a w₁ => (loadVar 33 a).run Tryd.prog w₁ := by
    simp only [results, h]
    simp [Sem.run_bind, Result.andThen]
  rw [e, hq]
  simp [asAddr, hA.load, Result.andThen]
/-- an answer: a Request in a cell, and a value -/
theorem results_Q2 {fn : Func} {q u : Tmp} (h : fn.results = #[.cell q 33, .tmp u]) (tmps : Array Value) (w : World) (g : Nat) (m p fv bv v : Value) (hq : tmps.getD q undef = .pointer (some ⟨g, 0, none⟩)) (hu : tmps.getD u undef = v) (hA : QCell w g m p fv bv) :
    (results fn tmps).run Tryd.prog w = .ok (.tuple #[.agg #[m, p, fv, bv], v]) w := by
  rw [results_cell_tmp h, hq, hu]
  simp [asAddr, hA.load, Result.andThen]
/-- a value that is a Request, and can be read -/
structure ReqParts (fv : Value) (A : Option Addr) (c : Nat) (r : ReqL) (w : World) : Prop where
  fields : PairsV fv r.fs w
  body : PieceOk w ⟨A, c, r.body⟩
theorem ReqParts.keep {fv : Value} {A : Option Addr} {c : Nat} {r : ReqL} {w w' : World} (h : ReqParts fv A c r w) (hb : Below w.heap.size w w') : ReqParts fv A c r w' := ⟨h.fields.keep hb, h.body.keep hb⟩
/-- .. and lies in memory from a block on -/
structure ReqNew (base : Nat) (fv : Value) (A : Option Addr) (c : Nat) (r : ReqL) (w : World) : Prop where
  fields : POwn base fv r.fs w
  body : PieceOk w ⟨A, c, r.body⟩
  apart : ∀ k, k < base → Apart A r.body k
theorem ReqNew.parts {base : Nat} {fv : Value} {A : Option Addr} {c : Nat} {r : ReqL} {w : World} (h : ReqNew base fv A c r w) : ReqParts fv A c r w := ⟨h.fields.reads, h.body⟩
theorem ReqNew.keep {base : Nat} {fv : Value} {A : Option Addr} {c : Nat} {r : ReqL} {w w' : World} (h : ReqNew base fv A c r w) (hb : Below w.heap.size w w') : ReqNew base fv A c r w' := ⟨h.fields.keep hb, h.body.keep hb, h.apart⟩
theorem ReqNew.grown {base g : Nat} {fv : Value} {A : Option Addr} {c : Nat} {r : ReqL} {w w' : World} (h : ReqNew base fv A c r w) (hb : w.grownBy w' (some g)) (hg : g < base) : ReqNew base fv A c r w' :=
  ⟨h.fields.block fun i hi => hb.block i (h.fields.lt i hi).2 (fun e => by cases e; have := (h.fields.lt _ hi).1; omega), h.body.grown hb (h.apart g hg), h.apart⟩
theorem ReqNew.base {base base' : Nat} {fv : Value} {A : Option Addr} {c : Nat} {r : ReqL} {w : World} (h : ReqNew base fv A c r w) (hb : base' ≤ base) : ReqNew base' fv A c r w := ⟨h.fields.base hb, h.body, fun k hk => h.apart k (by omega)⟩
def reqV (r : ReqL) (fv : Value) (A : Option Addr) (c : Nat) : Value := .agg #[.string (strOf r.m), .string (strOf r.p), fv, .slice A r.body.length c]
theorem ReqParts.zero (w : World) : ReqParts (.slice none 0 0) none 0 ReqZ w :=
  ⟨⟨none, 0, rfl, by simp [ReqZ], by omega, fun _ => rfl, PairsAt.nil _ _⟩, piece_nil w⟩

set_option maxRecDepth 8000 in
set_option maxHeartbeats 2000000 in
theorem bclone_any (A : Option Addr) (bs : List UInt8) (n c : Nat) (w : World) (hp : PieceOk w ⟨A, c, bs⟩) (hn : bs.length = n) :
    Calls Tryd.prog 55 #[.slice A n c] w fun e w' => ∃ A' c', e = .returned (.slice A' n c') ∧ PieceOk w' ⟨A', c', bs⟩ ∧ (∀ k, k < w.heap.size → Apart A' bs k) ∧ Below w.heap.size w w' := by
  have q22 : ∀ (w : World) (a : Option Addr) (n c n' c' : Nat), (binOp .eql 22 (.slice a n c) (.slice none n' c')).run Tryd.prog w = .ok (.bool a.isNone) w := fun w a n c n' c' => Lib.run_eql_slice_nil w _ _ a n c n' c' Tryd.underlying22
  have HP := hideIt hp
  subst hn
  cases A with
  | none =>
    have hc := hp.nil rfl
    have hf := hp.fits
    simp only at hc hf
    have hb0 : bs = [] := List.eq_nil_of_length_eq_zero (by omega)
    subst hb0
    subst hc
    clear hp hf
    go_enter Tryd.func55, Tryd.ntmps55
    go_wp2
    go_ret
    exact ⟨none, 0, rfl, piece_nil _, fun k _ h => by simp at h, Below.refl _ _⟩
  | some a =>
    have hl := hp.long
    simp only at hl
    clear hp
    have hw0 : Below w.heap.size w (w.alloc (.cells #[] 5)) := below_new w _
    go_enter Tryd.func55, Tryd.ntmps55
    go_wp2_with (at_builtin; refine wpList_app rfl (.tmp 5) (.tmp 6) rfl w.heap.size _ 0 [] rfl (World.ownsRow_made w #[] 0 (Nat.le_refl _) (Nat.zero_le _) rfl) (some a) bs.length c _ bs rfl rfl (fun h => by cases h) (HP.out.keep (below_new w _)).bytes (by omega) (below_new w (.cells #[] 5)).size ?_)
    intro v' w1 hown hgrow
    have HB : Hid (Below w.heap.size w w1) := hideIt ((below_new w _).grown hgrow (below_new w (.cells #[] 5)).size (by intro k hk; simp [Value.ownBlock] at hk; omega))
    have hlt := World.ownsRow.lt hown
    obtain ⟨A', c', rfl, _, h3, h4, h5, h6⟩ := own_open hown
    have HAP : Hid (∀ k, k < w.heap.size → Apart A' bs k) := hideIt fun k hk _ ad he => by
      subst he
      have := (hlt ad.block rfl).1
      omega
    have HK : Hid (PieceOk w1 ⟨A', c', bs⟩) := hideIt ⟨h6, by simp only; omega, by unfold maxLen at h4; simp only; omega, hl, h5⟩
    clear hown hgrow h6 hlt
    go_wp2
    go_ret
    exact ⟨A', c', rfl, HK.out, HAP.out, HB.out⟩
theorem go_bclone : goFn Tryd.prog 55 = true := by kernel_rfl
end Go.Proofs.YtbojigimldfghaaDoor

/- A Request's cells, read in a region by an invariant. -/
namespace Go.Proofs.YtbojigimldfghaaDoor
open Go.ChangeShapes Go.WideShapes Go.ChangeAt Go.RowKit
set_option linter.unusedVariables false

section
variable {ops : Array Oper} {Q : Exit → Act → World → Prop} {o : Oper} {a : Act} {w : World}
theorem ok_fieldQ1 (hg : Region.wanted o (yielded ops a.tmps) = true) (x : Operand) (ho : o.op = .fieldAddr 33 x 1) (b off : Nat) (h1 : a.eval x = .pointer (some ⟨b, off, none⟩)) : StepOk Tryd.prog ops Q (Fact.is (.pointer (some ⟨b, off + 1, none⟩))) o a w := by
  refine ok_same hg _ ?_ rfl
  simp only [execOp, ho, h1]
  go_simp
theorem ok_fieldQ2b (hg : Region.wanted o (yielded ops a.tmps) = true) (x : Operand) (ho : o.op = .fieldAddr 33 x 2) (b off : Nat) (h1 : a.eval x = .pointer (some ⟨b, off, none⟩)) : StepOk Tryd.prog ops Q (Fact.is (.pointer (some ⟨b, off + 2, none⟩))) o a w := by
  refine ok_same hg _ ?_ rfl
  simp only [execOp, ho, h1]
  go_simp
theorem ok_loadFv (hg : Region.wanted o (yielded ops a.tmps) = true) (x : Operand) (ho : o.op = .load 31 x) (p : Addr) (v : Value) (h1 : a.eval x = .pointer (some p)) (hc : w.cell? p = some v) : StepOk Tryd.prog ops Q (Fact.is v) o a w := by
  refine ok_same hg _ ?_ rfl
  simp only [execOp, ho, h1]
  go_simp
end
end Go.Proofs.YtbojigimldfghaaDoor
