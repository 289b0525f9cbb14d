/- A range over strings.SplitSeq, where each round changes one box of the caller's, and the row of pairs that it holds: a law for it. -/
import Derived.Test.YtccppgiigkmdbaaDoorSplitSeq
import Derived.Test.YtccppgiigkmdbaaDoorPairs
namespace Go.Proofs.YtccppgiigkmdbaaDoor
open Go.ChangeShapes Go.WideShapes Go.ChangeAt Go.RowKit
set_option linter.unusedVariables false
set_option linter.unusedSimpArgs false

/-- a piece, cut at the first '=' -/
def rawP (p : List UInt8) : PairL := (cutN p, cutV p)
/-- the caller's box, and the pairs that it holds -/
structure PSt (w0 : World) (ps : List (List UInt8)) (W : World) : Prop where
  below : Below w0.heap.size w0 W
  pairs : ∃ v, W.heap[w0.heap.size]? = some (.cells #[v] 29 (0, 0)) ∧ POwn (w0.heap.size + 6) v (ps.map rawP) W
theorem PSt.put {w0 : World} {ps : List (List UInt8)} {W : World} (h : PSt w0 ps W) (k : Nat) (o : Obj) (h1 : w0.heap.size < k) (h2 : k < w0.heap.size + 6) : PSt w0 ps (W.putObj k o) := by
  obtain ⟨v, hv, hp⟩ := h.pairs
  refine ⟨⟨h.below.os, h.below.tape, h.below.output, by rw [World.putObj_size]; exact h.below.size, fun i hi => (World.putObj_heap_other (by omega)).trans (h.below.block i hi)⟩, v, (World.putObj_heap_other (by omega)).trans hv, hp.block fun g hg => World.putObj_heap_other (by have := (hp.lt g hg).1; omega)⟩
theorem PSt.set {w0 : World} {ps : List (List UInt8)} {W : World} (h : PSt w0 ps W) (k i : Nat) (v : Value) (h1 : w0.heap.size < k) (h2 : k < w0.heap.size + 6) : PSt w0 ps (W.setCell ⟨k, i, none⟩ v) := by
  obtain ⟨u, hv, hp⟩ := h.pairs
  refine ⟨h.below.setCell (p := ⟨k, i, none⟩) (by show w0.heap.size ≤ k; omega) v, u, (heap_setCell_other _ _ _ _ (by show w0.heap.size ≠ k; omega)).trans hv, hp.block fun g hg => heap_setCell_other _ _ _ _ (by have := (hp.lt g hg).1; show g ≠ k; omega)⟩
/-- how all stands between two rounds -/
structure CutSt (w0 : World) (lp : Loop) (ps : List (List UInt8)) (W : World) : Prop where
  st : PSt w0 ps W
  sep : W.heap[w0.heap.size + 1 + 1]? = some (.cells #[.string ⟨#[38]⟩] 9 (0, 0))
  sv : W.heap[w0.heap.size + 1 + 2]? = some (.cells #[.int .i64 0] 3 (0, 0))
  defers : W.heap[w0.heap.size + 4]? = some (.deferred (some []))
  loop : W.heap[w0.heap.size + 5]? = some (.loop lp)
theorem wp_range_cut {n : Nat} {g : Operand} {ps : Array Tmp} {assign body : Code} {Q : Exit → Act → World → Prop} {a : Act} {w : World} (h1 : 1 ≤ n) (h2 : 1 ≤ n - 1)
    (w0 : World) (hw : w.heap.size = w0.heap.size + 4) (t : List UInt8) (ht : t.length ≤ 1000000)
    (hg : a.eval g = seqF (w0.heap.size + 1)) (hps : ps.size = 1)
    (hs : w.heap[w0.heap.size + 1]? = some (.cells #[.string (strOf t)] 9 (0, 0))) (hsep : w.heap[w0.heap.size + 1 + 1]? = some (.cells #[.string ⟨#[38]⟩] 9 (0, 0))) (hsv : w.heap[w0.heap.size + 1 + 2]? = some (.cells #[.int .i64 0] 3 (0, 0)))
    (h0 : PSt w0 [] w) (a₁ : Value → Act)
    (hassign : ∀ (l : Nat) (x : Value) (W : World) (K : Act → World → Prop), K (a₁ x) W →
      assign.wpIn (Fence.wide.inRound l) (n - 1 - 1) Tryd.prog (Exit.then K (fun _ _ _ => False)) { tmps := (ps.zip #[x]).foldl (fun t (p, v) => t.setIfInBounds p v) a.tmps, defers := [] } W)
    (hbody : ∀ (l : Nat) (qs : List (List UInt8)) (p : List UInt8) (W : World), p.length ≤ 1000000 → qs.length < (splitL 38 t).length → w0.heap.size + 6 ≤ W.heap.size → PSt w0 qs W →
      body.wpIn (Fence.wide.inRound l) (n - 1 - 1) Tryd.prog (fun e _ W' => e = .normal ∧ PSt w0 (qs ++ [p]) W' ∧ ∀ k, w0.heap.size < k → k < w0.heap.size + 6 → W'.heap[k]? = W.heap[k]?) (a₁ (.string (strOf p))) W)
    (hdone : ∀ (W2 : World), PSt w0 (splitL 38 t) W2 → w0.heap.size + 5 < W2.heap.size → W2.heap[w0.heap.size + 4]? = some (.deferred (some [])) →
      Q .normal { a with defers := { target := .collected (w0.heap.size + 4), args := #[] } :: a.defers } W2) :
    (Code.rangeFunc g ps assign body).wpIn Fence.wide n Tryd.prog Q a w := by
  refine wpIn_rangeFunc ?_
  intro fn hfn
  rw [show Fence.wide.round = none from rfl]
  obtain ⟨rec, hrec⟩ : ∃ rec : Loop, rec = { state := .ready, pending := none, fn, tmps := a.tmps, params := ps, assign, body, defers := w.heap.size } := ⟨_, rfl⟩
  obtain ⟨W1, hW1⟩ : ∃ W1, (w.alloc (.deferred (some []))).alloc (.loop rec) = W1 := ⟨_, rfl⟩
  have hL1 : W1.heap[w0.heap.size + 5]? = some (.loop rec) := by
    rw [← hW1]; have := World.alloc_heap_new (w.alloc (.deferred (some []))) (.loop rec); rwa [World.size_alloc, hw] at this
  have hK1 : W1.heap[w0.heap.size + 4]? = some (.deferred (some [])) := by
    rw [← hW1, ← hw]; exact (Below.heap_alloc _ _ _ (by simp)).trans (World.alloc_heap_new w _)
  have hb1 : Below w.heap.size w W1 := by
    rw [← hW1]; exact ((Below.refl _ w).alloc (Nat.le_refl _) _).alloc (by simp) _
  have go : ∀ {k : Nat} {o : Obj}, w.heap[k]? = some o → W1.heap[k]? = some o := fun {k o} h => (hb1.block _ (Array.getElem?_eq_some_iff.1 h).1).trans h
  obtain ⟨v0, hv0, hp0⟩ := h0.pairs
  have S1 : CutSt w0 rec [] W1 := ⟨⟨h0.below.trans (hb1.mono (by omega)), v0, go hv0, hp0.keep hb1⟩, go hsep, go hsv, hK1, hL1⟩
  refine ⟨w.heap.size + 1, [{ target := .collected w.heap.size, args := #[] }], W1, { target := .fn (.func 58) #[.pointer (some ⟨w0.heap.size + 1 + 1, 0, none⟩), .pointer (some ⟨w0.heap.size + 1, 0, none⟩), .pointer (some ⟨w0.heap.size + 1 + 2, 0, none⟩)], args := #[.func (.yield (w.heap.size + 1)) #[] #[]] }, W1, 58,
    #[.func (.yield (w.heap.size + 1)) #[] #[]] ++ #[.pointer (some ⟨w0.heap.size + 1 + 1, 0, none⟩), .pointer (some ⟨w0.heap.size + 1, 0, none⟩), .pointer (some ⟨w0.heap.size + 1 + 2, 0, none⟩)], W1, ?_, ?_, ?_, ?_, fun _ => h1, ?_⟩
  · rw [← hW1, hrec]; exact run_enterLoop_outer _ _ _ _ _
  · simp only [resolve, hg, seqF]
    simp [go_sem]
  · intro f' hf'; exact trivial
  · have eg := enters_of Tryd.func58 (by kernel_rfl) rfl
    simp [invoke, go_sem, eg]
  · rw [hw]
    refine (seq1_in (n - 1) h2 (w0.heap.size + 1) (w0.heap.size + 5) rec t ht (CutSt w0 rec) W1 S1 (go hs) (fun qs W h => ⟨h.sep, h.sv, h.loop⟩) (fun qs W v h => ⟨h.st.set _ _ _ (by omega) (by omega), ?_, ?_, ?_, ?_⟩) ?_).mono ?_
    · exact (heap_setCell_other _ _ _ _ (by show w0.heap.size + 1 + 1 ≠ w0.heap.size + 1; omega)).trans h.sep
    · exact (heap_setCell_other _ _ _ _ (by show w0.heap.size + 1 + 2 ≠ w0.heap.size + 1; omega)).trans h.sv
    · exact (heap_setCell_other _ _ _ _ (by show w0.heap.size + 4 ≠ w0.heap.size + 1; omega)).trans h.defers
    · exact (heap_setCell_other _ _ _ _ (by show w0.heap.size + 5 ≠ w0.heap.size + 1; omega)).trans h.loop
    · intro qs p W hp hq hS
      have hl := hS.loop
      have hlt : w0.heap.size + 5 < W.heap.size := (Array.getElem?_eq_some_iff.1 hl).1
      have hy := run_yield (P := Tryd.prog) (args := #[.string (strOf p)]) hl (by rw [hrec]; simp [hps])
      have hy' := hy
      rw [hrec] at hy'
      refine ⟨fn, _, assign, body, hy', roundIn_of_wpIn hfn (hassign _ (.string (strOf p)) W _ ⟨_, run_beginRound hl (by rw [hrec]), ?_⟩)⟩
      have hl2 : (W.putObj (w0.heap.size + 5) (.loop { rec with state := .busy })).heap[w0.heap.size + 5]? = some (.loop { rec with state := .busy }) := World.putObj_heap_same hlt
      refine wpIn_mono (hbody _ qs p _ hp hq (by rw [World.putObj_size]; omega) (hS.st.put _ _ (by omega) (by omega))) ?_
      rintro e a3 W3 ⟨rfl, hP3, hk3⟩
      have hl3 : W3.heap[w0.heap.size + 5]? = some (.loop { rec with state := .busy }) := (hk3 _ (by omega) (by omega)).trans hl2
      have hlt3 : w0.heap.size + 5 < W3.heap.size := (Array.getElem?_eq_some_iff.1 hl3).1
      have hend := run_endRound (P := Tryd.prog) none hl3
      have keep : ∀ k, w0.heap.size < k → k < w0.heap.size + 5 → ∀ o, (W3.putObj (w0.heap.size + 5) o).heap[k]? = W.heap[k]? := fun k k1 k2 o => by
        rw [World.putObj_heap_other (by omega), hk3 k k1 (by omega), World.putObj_heap_other (by omega)]
      refine ⟨_, _, hend, rfl, ⟨hP3.put _ _ (by omega) (by omega), (keep _ (by omega) (by omega) _).trans hS.sep, (keep _ (by omega) (by omega) _).trans hS.sv, (keep _ (by omega) (by omega) _).trans hS.defers, ?_⟩, keep _ (by omega) (by omega) _⟩
      have := World.putObj_heap_same (o := .loop rec) hlt3
      rw [hrec] at this ⊢
      exact this
    · rintro e W2 ⟨⟨v, rfl⟩, hS⟩
      have hlt : w0.heap.size + 5 < W2.heap.size := (Array.getElem?_eq_some_iff.1 hS.loop).1
      have := run_endLoop (P := Tryd.prog) hS.loop (by rw [hrec]; simp)
      rw [show rec.pending = none by rw [hrec]] at this
      refine ⟨none, _, this, hdone _ (hS.st.put _ _ (by omega) (by omega)) (by rw [World.putObj_size]; exact hlt) ((World.putObj_heap_other (by omega)).trans hS.defers)⟩
end Go.Proofs.YtccppgiigkmdbaaDoor
