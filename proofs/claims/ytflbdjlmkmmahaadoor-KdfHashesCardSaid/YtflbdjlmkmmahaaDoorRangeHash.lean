/- A range over a function that keeps what is at hand in a cell of its own, where each round changes one row of the caller's: a law for it. -/
import Derived.RangeFuncNested
import Derived.RangeFuncBound
import Derived.RangeFuncCalls
import Derived.RangeFuncLeaves
import Derived.Shelf.Abstract
import Derived.Shelf.RegionOpen
import Derived.WalkKit
import Derived.OwnWalkIn
import Derived.TacticsInMore
import Derived.LoopNIn
import Derived.LoopIn
import Derived.Test.YtflbdjlmkmmahaaDoorRoundsOf
namespace Go.Proofs.YtflbdjlmkmmahaaDoor
open Go.ChangeShapes Go.WideShapes Go.ChangeAt Go.RowKit
set_option linter.unusedVariables false

/-- the caller's row of 32 bytes, and the box that holds it -/
structure HashRow (B : Nat) (h : List UInt8) (W : World) : Prop where
  own : W.ownsRow B 5 1 (.slice (some ⟨B, 0, none⟩) 32 32) 32 (cellsOf h)
  box : W.heap[B + 1]? = some (.cells #[.slice (some ⟨B, 0, none⟩) 32 32] 22 (0, 0))
theorem HashRow.other {B l : Nat} {h : List UInt8} {W : World} (H : HashRow B h W) (o : Obj) (hl : B + 2 ≤ l) : HashRow B h (W.putObj l o) :=
  ⟨own_keep H.own (World.putObj_heap_other (by omega)), (World.putObj_heap_other (by omega)).trans H.box⟩
theorem HashRow.keep {B : Nat} {h : List UInt8} {W W' : World} (H : HashRow B h W) (hb : Below (B + 2) W W') : HashRow B h W' :=
  ⟨own_keep H.own (hb.block _ (by omega)), (hb.block _ (by omega)).trans H.box⟩
/-- a row of 32 bytes that is another one -/
def URow (B : Nat) (u : List UInt8) (g : Nat) (W : World) : Prop := W.ownsRow (B + 2) 5 1 (.slice (some ⟨g, 0, none⟩) 32 32) 32 (cellsOf u)
theorem grown_put {W W' : World} {B l : Nat} {o o' : Obj} (h : (W.putObj l o).grownBy W' (some B)) (hl : W.heap[l]? = some o') (hn : l ≠ B) : W.grownBy (W'.putObj l o') (some B) := by
  have hlt := (Array.getElem?_eq_some_iff.1 hl).1
  have hs := h.size
  rw [World.putObj_size] at hs
  refine ⟨h.os, h.tape, h.output, by rw [World.putObj_size]; exact hs, fun k hk hne => ?_⟩
  by_cases hkl : k = l
  · subst hkl
    rw [World.putObj_heap_same (by omega), hl]
  · rw [World.putObj_heap_other hkl, h.block k (by rw [World.putObj_size]; exact hk) hne, World.putObj_heap_other hkl]

theorem wp_range_hash {n : Nat} {P : Program} {g : Operand} {ps : Array Tmp} {assign body : Code} {Q : Exit → Act → World → Prop} {a : Act} {w : World} (h1 : 1 ≤ n)
    {gf : Nat} {lb : Array Value} (hg : a.eval g = .func (.func gf) #[] lb) (eg : ∀ args w, (callFunc gf args).run P w = .ok (.enter gf args) w) (hps : ps.size = 1)
    (B : Nat) (hB : B + 2 ≤ w.heap.size) (a₁ : Value → Act)
    (hassign : ∀ (l : Nat) (x : Value) (W : World) (K : Act → World → Prop), K (a₁ x) W →
      assign.wpIn (Fence.wide.inRound l) (n - 1 - 1) P (Exit.then K (fun _ _ _ => False)) { tmps := (ps.zip #[x]).foldl (fun t (p, v) => t.setIfInBounds p v) a.tmps, defers := [] } W)
    (hbody : ∀ (l : Nat) (h u : List UInt8) (gu : Nat) (W : World), HashRow B h W → URow B u gu W →
      body.wpIn (Fence.wide.inRound l) (n - 1 - 1) P (fun e _ W' => e = .normal ∧ W.grownBy W' (some B) ∧ HashRow B (xorL h u) W') (a₁ (.slice (some ⟨gu, 0, none⟩) 32 32)) W)
    (Fin : World → Prop)
    (hcall : ∀ (l : Nat) (rec : Loop) (W1 : World), Below w.heap.size w W1 → l = w.heap.size + 1 → W1.heap[l]? = some (.loop rec) → W1.heap[w.heap.size]? = some (.deferred (some [])) →
      (∀ (h u : List UInt8) (gu : Nat) (W : World), W.heap[l]? = some (.loop rec) → HashRow B h W → URow B u gu W →
        YieldAt Fence.wide (n - 1 - 1) P l #[.slice (some ⟨gu, 0, none⟩) 32 32] W fun e W' => e = .returned (.bool true) ∧ W.grownBy W' (some B) ∧ HashRow B (xorL h u) W') →
      CallsIn Fence.wide (n - 1) P gf (#[.func (.yield l) #[] #[]] ++ lb) W1 fun e W2 => (∃ v, e = .returned v) ∧ W2.heap[l]? = some (.loop rec) ∧ W2.heap[w.heap.size]? = some (.deferred (some [])) ∧ Fin W2)
    (hdone : ∀ (D l : Nat) (W2 : World) (o : Obj), D = w.heap.size → l = w.heap.size + 1 → Fin W2 → (W2.putObj l o).heap[D]? = some (.deferred (some [])) →
      Q .normal { a with defers := { target := .collected D, args := #[] } :: a.defers } (W2.putObj l o)) :
    (Code.rangeFunc g ps assign body).wpIn Fence.wide n P Q a w := by
  refine wpIn_rangeFunc ?_
  intro fn hfn
  rw [show Fence.wide.round = none from rfl]
  obtain ⟨rec, hrec⟩ : ∃ rec : Loop, rec = { state := .ready, pending := none, fn, tmps := a.tmps, params := ps, assign, body, defers := w.heap.size } := ⟨_, rfl⟩
  obtain ⟨W1, hW1⟩ : ∃ W1, (w.alloc (.deferred (some []))).alloc (.loop rec) = W1 := ⟨_, rfl⟩
  have hL1 : W1.heap[w.heap.size + 1]? = some (.loop rec) := by
    rw [← hW1]; have := World.alloc_heap_new (w.alloc (.deferred (some []))) (.loop rec); rwa [World.size_alloc] at this
  have hK1 : W1.heap[w.heap.size]? = some (.deferred (some [])) := by
    rw [← hW1]; exact (Below.heap_alloc _ _ _ (by simp)).trans (World.alloc_heap_new w _)
  have hb1 : Below w.heap.size w W1 := by
    rw [← hW1]; exact ((Below.refl _ w).alloc (Nat.le_refl _) _).alloc (by simp) _
  refine ⟨w.heap.size + 1, [{ target := .collected w.heap.size, args := #[] }], W1, { target := .fn (.func gf) lb, args := #[.func (.yield (w.heap.size + 1)) #[] #[]] }, W1, gf,
    #[.func (.yield (w.heap.size + 1)) #[] #[]] ++ lb, W1, ?_, ?_, ?_, ?_, fun _ => h1, ?_⟩
  · rw [← hW1, hrec]; exact run_enterLoop_outer _ _ _ _ _
  · simp only [resolve, hg]
    simp [go_sem]
  · intro f' hf'; exact trivial
  · simp [invoke, go_sem, eg]
  · refine (hcall (w.heap.size + 1) rec W1 hb1 rfl hL1 hK1 ?_).mono ?_
    · intro h u gu W hl hH hU
      have hlt : w.heap.size + 1 < W.heap.size := (Array.getElem?_eq_some_iff.1 hl).1
      have hy := run_yield (P := P) (args := #[.slice (some ⟨gu, 0, none⟩) 32 32]) hl (by rw [hrec]; simp [hps])
      have hy' := hy
      rw [hrec] at hy'
      refine ⟨fn, _, assign, body, hy', roundIn_of_wpIn hfn (hassign _ (.slice (some ⟨gu, 0, none⟩) 32 32) W _ ⟨_, run_beginRound hl (by rw [hrec]), ?_⟩)⟩
      have hgu := own_lt hU
      have hl2 : (W.putObj (w.heap.size + 1) (.loop { rec with state := .busy })).heap[w.heap.size + 1]? = some (.loop { rec with state := .busy }) := World.putObj_heap_same hlt
      by_cases hgl : gu = w.heap.size + 1
      · -- the record is no row
        exfalso
        rcases hU.2 with ⟨h0, _⟩ | ⟨g', cap, cur, hv, _, hc, _⟩
        · cases h0
        · cases hv
          rw [hgl, hl] at hc
          cases hc
      refine wpIn_mono (hbody _ h u gu _ (hH.other _ (by omega)) (own_keep hU (World.putObj_heap_other hgl))) ?_
      rintro e a3 W3 ⟨rfl, hg3, hH3⟩
      have hl3 : W3.heap[w.heap.size + 1]? = some (.loop { rec with state := .busy }) := (hg3.block _ (by rw [World.putObj_size]; exact hlt) (by simp; omega)).trans hl2
      have hend := run_endRound (P := P) none hl3
      refine ⟨_, _, hend, rfl, ?_, ?_⟩
      · have := grown_put hg3 hl (by omega)
        rw [hrec] at this ⊢
        exact this
      · exact hH3.other _ (by omega)
    · rintro e W2 ⟨⟨v, rfl⟩, hl, hk, hF⟩
      have := run_endLoop (P := P) hl (by rw [hrec]; simp)
      rw [show rec.pending = none by rw [hrec]] at this
      exact ⟨none, _, this, hdone _ _ W2 _ rfl rfl hF ((World.putObj_heap_other (by omega)).trans hk)⟩
end Go.Proofs.YtflbdjlmkmmahaaDoor
