/- Contracts of strings.SplitSeq at '; ', and of the function that it hands out: a range over it, where a round may leave by a return: a law for it. -/
import Derived.RangeFuncNested
import Derived.RangeFuncBound
import Derived.RangeFuncCalls
import Derived.RangeFuncLeaves
import Derived.Shelf.Abstract
import Derived.Shelf.RegionOpen
import Derived.WalkKit
import Derived.OwnWalkIn
import Derived.TacticsInMore
import Derived.LoopNIn
import Derived.LoopIn
import Derived.Lib.FrozenHead
import Derived.Test.YtjfmlfakdijfjaaDoorCookLays
import Derived.Test.YtjfmlfakdijfjaaDoorStrRun
import Derived.Test.YtjfmlfakdijfjaaDoorCmp
namespace Go.Proofs.YtjfmlfakdijfjaaDoor
open Go.ChangeShapes Go.WideShapes Go.ChangeAt Go.RowKit
set_option linter.unusedVariables false
set_option linter.unusedSimpArgs false
attribute [local go_sem] Oper.semAt_some

/-- what SplitSeq hands out, and leaves -/
def sepF (q : Nat) : Value := .func (.func 60) #[] #[.pointer (some ⟨q + 1, 0, none⟩), .pointer (some ⟨q, 0, none⟩), .pointer (some ⟨q + 2, 0, none⟩)]
def sepW (l : List UInt8) (w : World) : World := ((w.alloc (.cells #[.string (strOf l)] 9)).alloc (.cells #[.string ⟨#[59, 32]⟩] 9)).alloc (.cells #[.int .i64 0] 3)
theorem sepseq0_any (l : List UInt8) (w : World) : Calls Tryd.prog 52 #[.string (strOf l), .string ⟨#[59, 32]⟩, .int .i64 0] w fun e w' => e = .returned (sepF w.heap.size) ∧ w' = sepW l w := by
  go_enter Tryd.func52, Tryd.ntmps52
  go_wp2
  go_ret
  exact ⟨rfl, rfl⟩
theorem sepseq_any (l : List UInt8) (w : World) : Calls Tryd.prog 39 #[.string (strOf l), .string ⟨#[59, 32]⟩] w fun e w' => e = .returned (sepF w.heap.size) ∧ w' = sepW l w := by
  have H := hideIt (sepseq0_any l w)
  generalize sepF w.heap.size = r at *
  generalize sepW l w = W at *
  generalize strOf l = s at *
  go_enter Tryd.func39, Tryd.ntmps39
  go_wp2_with fail
  refine H.out.mono ?_
  rintro e w2 ⟨rfl, rfl⟩
  go_wp2_with fail
  go_ret
  exact ⟨rfl, rfl⟩
/-- how long the text at hand is -/
def sepN (w : World) (q : Nat) : Nat := match w.cell? ⟨q, 0, none⟩ with
  | some (.string s) => s.size
  | _ => 0
set_option maxRecDepth 8000 in
set_option maxHeartbeats 2000000 in
theorem sep1_in (n : Nat) (hn : 1 ≤ n) (q l : Nat) (lp : Loop) (t : List UInt8) (ht : t.length ≤ 1000000) (St : List (List UInt8) → World → Prop) (Sx : World → Prop) (W : World) (h0 : St [] W)
    (hs : W.heap[q]? = some (.cells #[.string (strOf t)] 9 (0, 0)))
    (hK : ∀ ps W, St ps W → W.heap[q + 1]? = some (.cells #[.string ⟨#[59, 32]⟩] 9 (0, 0)) ∧ W.heap[q + 2]? = some (.cells #[.int .i64 0] 3 (0, 0)) ∧ W.heap[l]? = some (.loop lp) ∧ MaxOk W)
    (hset : ∀ ps W v, St ps W → St ps (W.setCell ⟨q, 0, none⟩ v))
    (hY : ∀ ps p W, p.length ≤ 1000000 → (∃ r, ps ++ p :: r = pcsL t) → St ps W → YieldAt Fence.wide (n - 1) Tryd.prog l #[.string (strOf p)] W fun e W' => (e = .returned (.bool true) ∧ St (ps ++ [p]) W' ∧ W'.heap[q]? = W.heap[q]?) ∨ (e = .returned (.bool false) ∧ Sx W')) :
    CallsIn Fence.wide n Tryd.prog 60 #[.func (.yield l) #[] #[], .pointer (some ⟨q + 1, 0, none⟩), .pointer (some ⟨q, 0, none⟩), .pointer (some ⟨q + 2, 0, none⟩)] W fun e W' => (∃ v, e = .returned v) ∧ (St (pcsL t) W' ∨ Sx W') := by
  have HK := hideIt hK
  have HS := hideIt hset
  have HY := hideIt hY
  have H0 := hideIt h0
  have Hs := hideIt hs
  have c1 : W.cell? ⟨q + 1, 0, none⟩ = some (.string ⟨#[59, 32]⟩) := by rw [cell_of_row W _ _ _ _ _ (hK _ _ h0).1]; rfl
  clear hK hset hY h0 hs
  refine callsIn_of_wp Tryd.func60 rfl trivial ?_ rfl
  simp only [Tryd.ntmps60, List.size_toArray, List.length_cons, List.length_nil, Nat.reduceAdd, Nat.reduceSub, Array.replicate_succ, Array.replicate_zero, List.push_toArray, List.append_toArray, List.nil_append, List.cons_append]
  gi_wp2
  gi_loopw [] (fun wr => ∃ (ps : List (List UInt8)) (r : List UInt8), St ps wr ∧ wr.heap[q]? = some (.cells #[.string (strOf r)] 9 (0, 0)) ∧ ps ++ pcsL r = pcsL t ∧ r.length ≤ t.length) (fun wr => sepN wr q)
  case atStart => exact ⟨[], t, H0.out, Hs.out, by simp, Nat.le_refl _⟩
  case round =>
    obtain ⟨ps, r, hst, hq, hsp, hrl⟩ := hrel
    have cq : wr.cell? ⟨q, 0, none⟩ = some (.string (strOf r)) := by rw [cell_of_row wr _ _ _ _ _ hq]; rfl
    have c1' : wr.cell? ⟨q + 1, 0, none⟩ = some (.string ⟨#[59, 32]⟩) := by rw [cell_of_row wr _ _ _ _ _ (HK.out _ _ hst).1]; rfl
    have c2' : wr.cell? ⟨q + 2, 0, none⟩ = some (.int .i64 0) := by rw [cell_of_row wr _ _ _ _ _ (HK.out _ _ hst).2.1]; rfl
    have HI := hideIt (index_sc r wr (by omega) (HK.out _ _ hst).2.2.2)
    have HQ := hideIt hq
    have ST := hideIt hst
    have SP := hideIt hsp
    have hsz := strOf_size r
    clear hq hst hsp H0 Hs c1
    rcases scAt_cases r with ⟨hi, hsr⟩ | ⟨i, hi, hil, hsr⟩
    · rw [hi] at HI
      rw [hsr] at SP
      clear hi hsr
      obtain ⟨fn, tmps, assign, body, hy, hRd⟩ := HY.out ps r wr (by omega) ⟨[], SP.out⟩ ST.out
      replace hRd := hideIt hRd
      gi_wp2
      refine ⟨trivial, (callsIn_wide.2 HI.out).mono ?_⟩
      rintro e w2 ⟨rfl, rfl⟩
      gi_wp2
      refine hRd.out.mono ?_
      rintro e w4 (⟨rfl, g4, h4⟩ | ⟨rfl, g4⟩)
      · have N := hideIt (SP.out ▸ g4)
        clear g4 h4 hRd hy
        gi_wp2
        go_end0
        exact ⟨⟨_, rfl⟩, .inl N.out⟩
      · have N := hideIt g4
        clear g4 hRd hy
        gi_wp2
        go_end0
        exact ⟨⟨_, rfl⟩, .inr N.out⟩
    · rw [hi] at HI
      have SP2 : Hid ((ps ++ [r.take i]) ++ pcsL (r.drop (i + 2)) = pcsL t) := hideIt (by rw [← SP.out, hsr]; simp)
      clear hi hsr
      have hil' : (i : Int) + 2 ≤ (r.length : Int) := by omega
      have hil2 : (i : Int) ≤ 1000000 := by omega
      have hil0 : (0 : Int) ≤ (i : Int) := by omega
      have s1 : ∀ w', (Instr.slice 9 (.string (strOf r)) none (some (.int .i64 (i : Int))) none).run Tryd.prog w' = .ok (.string (strOf (r.take i))) w' := fun w' => by
        have := run_slice_str w' r none (some (.int .i64 (i : Int))) .i64 .i64 0 i (.inl ⟨rfl, rfl⟩) (.inr rfl) (by omega) (by omega)
        simpa using this
      have s2 : ∀ w', (Instr.slice 9 (.string (strOf r)) (some (.int .i64 ((i : Int) + 2))) none none).run Tryd.prog w' = .ok (.string (strOf (r.drop (i + 2)))) w' := fun w' => by
        have := run_slice_str w' r (some (.int .i64 ((i + 2 : Nat) : Int))) none .i64 .i64 (i + 2) r.length (.inr rfl) (.inl ⟨rfl, rfl⟩) (by omega) (by omega)
        have e : (r.drop (i + 2)).take (r.length - (i + 2)) = r.drop (i + 2) := List.take_of_length_le (by simp)
        rwa [e] at this
      obtain ⟨fn, tmps, assign, body, hy, hRd⟩ := HY.out ps (r.take i) wr (by simp; omega) ⟨pcsL (r.drop (i + 2)), by rw [← SP2.out]; simp⟩ ST.out
      replace hRd := hideIt hRd
      have HM : Hid (sepN wr q = r.length) := hideIt (by simp [sepN, cq, hsz])
      have hdl : (r.drop (i + 2)).length = r.length - (i + 2) := by simp
      gi_wp2
      refine ⟨trivial, (callsIn_wide.2 HI.out).mono ?_⟩
      rintro e w2 ⟨rfl, rfl⟩
      gi_wp2
      refine hRd.out.mono ?_
      rintro e w4 (⟨rfl, g4, h4⟩ | ⟨rfl, g4⟩)
      · have hq4 : w4.heap[q]? = some (.cells #[.string (strOf r)] 9 (0, 0)) := h4.trans HQ.out
        have cq4 : w4.cell? ⟨q, 0, none⟩ = some (.string (strOf r)) := by rw [cell_of_row w4 _ _ _ _ _ hq4]; rfl
        have fq4 : w4.frozen? ⟨q, 0, none⟩ = false := by simp [World.frozen?, hq4]
        have c14 : w4.cell? ⟨q + 1, 0, none⟩ = some (.string ⟨#[59, 32]⟩) := by rw [cell_of_row w4 _ _ _ _ _ (HK.out _ _ g4).1]; rfl
        have HQ5 : Hid ((w4.setCell ⟨q, 0, none⟩ (.string (strOf (r.drop (i + 2))))).heap[q]? = some (.cells #[.string (strOf (r.drop (i + 2)))] 9 (0, 0))) := hideIt (by
          have := heap_setCell_same w4 q 0 _ _ (.string (strOf (r.drop (i + 2)))) hq4
          simpa using this)
        have HM5 : Hid (sepN (w4.setCell ⟨q, 0, none⟩ (.string (strOf (r.drop (i + 2))))) q = r.length - (i + 2)) := hideIt (by
          have : (w4.setCell ⟨q, 0, none⟩ (.string (strOf (r.drop (i + 2))))).cell? ⟨q, 0, none⟩ = some (.string (strOf (r.drop (i + 2)))) := World.cell?_setCell_same _ _ _ cq4
          rw [sepN, this]
          simp only [strOf_size, hdl])
        have S5 := hideIt (HS.out _ _ (.string (strOf (r.drop (i + 2)))) g4)
        clear g4 h4 hRd hy hq4 cq c1' c2'
        gi_wp2
        go_roundw
        case rel => exact ⟨_, _, S5.out, HQ5.out, SP2.out, by omega⟩
        case measure => rw [HM5.out, HM.out]; omega
      · have N := hideIt g4
        clear g4 hRd hy
        gi_wp2
        refine bodyPost_ret (results_none rfl _ _ _) rfl ?_
        exact ⟨⟨_, rfl⟩, .inr N.out⟩
/-- how all stands between two rounds -/
structure ScSt (I : List (List UInt8) → World → Prop) (q D : Nat) (lp : Loop) (ps : List (List UInt8)) (W : World) : Prop where
  st : I ps W
  sep : W.heap[q + 1]? = some (.cells #[.string ⟨#[59, 32]⟩] 9 (0, 0))
  sv : W.heap[q + 2]? = some (.cells #[.int .i64 0] 3 (0, 0))
  defers : W.heap[D]? = some (.deferred (some []))
  loop : W.heap[D + 1]? = some (.loop lp)
theorem wp_range_sc {n : Nat} {g : Operand} {ps : Array Tmp} {assign body : Code} {Q : Exit → Act → World → Prop} {a : Act} {w : World} (h1 : 1 ≤ n) (h2 : 1 ≤ n - 1)
    (q D : Nat) (hw : w.heap.size = D) (hqD : q + 3 ≤ D) (t : List UInt8) (ht : t.length ≤ 1000000)
    (hg : a.eval g = sepF q) (hps : ps.size = 1)
    (hs : w.heap[q]? = some (.cells #[.string (strOf t)] 9 (0, 0))) (hsep : w.heap[q + 1]? = some (.cells #[.string ⟨#[59, 32]⟩] 9 (0, 0))) (hsv : w.heap[q + 2]? = some (.cells #[.int .i64 0] 3 (0, 0)))
    (I : List (List UInt8) → World → Prop) (Ix : World → Prop) (hImax : ∀ qs W, I qs W → MaxOk W)
    (hIput : ∀ qs W o, I qs W → I qs (W.putObj (D + 1) o)) (hIset : ∀ qs W v, I qs W → I qs (W.setCell ⟨q, 0, none⟩ v)) (hIxput : ∀ W o, Ix W → Ix (W.putObj (D + 1) o))
    (h0 : ∀ o1 o2, I [] ((w.alloc o1).alloc o2)) (a₁ : Value → Act)
    (hassign : ∀ (l : Nat) (x : Value) (W : World) (K : Act → World → Prop), K (a₁ x) W →
      assign.wpIn (Fence.wide.inRound l) (n - 1 - 1) Tryd.prog (Exit.then K (fun _ _ _ => False)) { tmps := (ps.zip #[x]).foldl (fun t (p, v) => t.setIfInBounds p v) a.tmps, defers := [] } W)
    (hbody : ∀ (l : Nat) (qs : List (List UInt8)) (p : List UInt8) (W : World), p.length ≤ 1000000 → (∃ r, qs ++ p :: r = pcsL t) → D + 2 ≤ W.heap.size → I qs W →
      body.wpIn (Fence.wide.inRound l) (n - 1 - 1) Tryd.prog (fun e _ W' => ((e = .normal ∧ I (qs ++ [p]) W') ∨ (e = .ret ∧ Ix W')) ∧ ∀ k, q ≤ k → k < D + 2 → W'.heap[k]? = W.heap[k]?) (a₁ (.string (strOf p))) W)
    (hdone : ∀ (W2 : World), I (pcsL t) W2 → D + 1 < W2.heap.size → W2.heap[D]? = some (.deferred (some [])) →
      Q .normal { a with defers := { target := .collected D, args := #[] } :: a.defers } W2)
    (hleft : ∀ (W2 : World), Ix W2 → D + 1 < W2.heap.size → W2.heap[D]? = some (.deferred (some [])) →
      Code.ret.wpIn Fence.wide n Tryd.prog Q { a with defers := { target := .collected D, args := #[] } :: a.defers } W2) :
    (Code.rangeFunc g ps assign body).wpIn Fence.wide n Tryd.prog Q a w := by
  subst hw
  refine wpIn_rangeFunc ?_
  intro fn hfn
  rw [show Fence.wide.round = none from rfl]
  obtain ⟨rec, hrec⟩ : ∃ rec : LoopState → Option Code → Loop, rec = fun st pe => { state := st, pending := pe, fn, tmps := a.tmps, params := ps, assign, body, defers := w.heap.size } := ⟨_, rfl⟩
  obtain ⟨W1, hW1⟩ : ∃ W1, (w.alloc (.deferred (some []))).alloc (.loop (rec .ready none)) = W1 := ⟨_, rfl⟩
  have hL1 : W1.heap[w.heap.size + 1]? = some (.loop (rec .ready none)) := by
    rw [← hW1]; have := World.alloc_heap_new (w.alloc (.deferred (some []))) (.loop (rec .ready none)); rwa [World.size_alloc] at this
  have hK1 : W1.heap[w.heap.size]? = some (.deferred (some [])) := by
    rw [← hW1]; exact (Below.heap_alloc _ _ _ (by simp)).trans (World.alloc_heap_new w _)
  have hb1 : Below w.heap.size w W1 := by
    rw [← hW1]; exact ((Below.refl _ w).alloc (Nat.le_refl _) _).alloc (by simp) _
  have go : ∀ {k : Nat} {o : Obj}, w.heap[k]? = some o → W1.heap[k]? = some o := fun {k o} h => (hb1.block _ (Array.getElem?_eq_some_iff.1 h).1).trans h
  have S1 : ScSt I q w.heap.size (rec .ready none) [] W1 := ⟨by rw [← hW1]; exact h0 _ _, go hsep, go hsv, hK1, hL1⟩
  refine ⟨w.heap.size + 1, [{ target := .collected w.heap.size, args := #[] }], W1, { target := .fn (.func 60) #[.pointer (some ⟨q + 1, 0, none⟩), .pointer (some ⟨q, 0, none⟩), .pointer (some ⟨q + 2, 0, none⟩)], args := #[.func (.yield (w.heap.size + 1)) #[] #[]] }, W1, 60,
    #[.func (.yield (w.heap.size + 1)) #[] #[]] ++ #[.pointer (some ⟨q + 1, 0, none⟩), .pointer (some ⟨q, 0, none⟩), .pointer (some ⟨q + 2, 0, none⟩)], W1, ?_, ?_, ?_, ?_, fun _ => h1, ?_⟩
  · rw [← hW1, hrec]; exact run_enterLoop_outer _ _ _ _ _
  · simp only [resolve, hg, sepF]
    simp [go_sem]
  · intro f' hf'; exact trivial
  · have eg := enters_of Tryd.func60 (by kernel_rfl) rfl
    simp [invoke, go_sem, eg]
  · refine (sep1_in (n - 1) h2 q (w.heap.size + 1) (rec .ready none) t ht (ScSt I q w.heap.size (rec .ready none)) (fun W => Ix W ∧ W.heap[w.heap.size]? = some (.deferred (some [])) ∧ W.heap[w.heap.size + 1]? = some (.loop (rec .done (some .ret)))) W1 S1 (go hs) (fun qs W h => ⟨h.sep, h.sv, h.loop, hImax _ _ h.st⟩) (fun qs W v h => ⟨hIset _ _ _ h.st, ?_, ?_, ?_, ?_⟩) ?_).mono ?_
    · exact (heap_setCell_other _ _ _ _ (by show q + 1 ≠ q; omega)).trans h.sep
    · exact (heap_setCell_other _ _ _ _ (by show q + 2 ≠ q; omega)).trans h.sv
    · exact (heap_setCell_other _ _ _ _ (by show w.heap.size ≠ q; omega)).trans h.defers
    · exact (heap_setCell_other _ _ _ _ (by show w.heap.size + 1 ≠ q; omega)).trans h.loop
    · intro qs p W hp hq hS
      have hl := hS.loop
      have hlt : w.heap.size + 1 < W.heap.size := (Array.getElem?_eq_some_iff.1 hl).1
      have hy := run_yield (P := Tryd.prog) (args := #[.string (strOf p)]) hl (by rw [hrec]; simp [hps])
      have hy' := hy
      rw [hrec] at hy'
      refine ⟨fn, _, assign, body, hy', roundIn_of_wpIn hfn (hassign _ (.string (strOf p)) W _ ⟨_, run_beginRound hl (by rw [hrec]), ?_⟩)⟩
      have hl2 : (W.putObj (w.heap.size + 1) (.loop { rec .ready none with state := .busy })).heap[w.heap.size + 1]? = some (.loop { rec .ready none with state := .busy }) := World.putObj_heap_same hlt
      refine wpIn_mono (hbody _ qs p _ hp hq (by rw [World.putObj_size]; omega) (hIput _ _ _ hS.st)) ?_
      rintro e a3 W3 ⟨hP3, hk3⟩
      have hl3 : W3.heap[w.heap.size + 1]? = some (.loop { rec .ready none with state := .busy }) := (hk3 _ (by omega) (by omega)).trans hl2
      have hlt3 : w.heap.size + 1 < W3.heap.size := (Array.getElem?_eq_some_iff.1 hl3).1
      have keep : ∀ k, q ≤ k → k < w.heap.size + 1 → ∀ o, (W3.putObj (w.heap.size + 1) o).heap[k]? = W.heap[k]? := fun k k1 k2 o => by
        rw [World.putObj_heap_other (by omega), hk3 k k1 (by omega), World.putObj_heap_other (by omega)]
      rcases hP3 with ⟨rfl, hP3⟩ | ⟨rfl, hP3⟩
      · have hend := run_endRound (P := Tryd.prog) none hl3
        refine ⟨_, _, hend, .inl ⟨rfl, ⟨hIput _ _ _ hP3, (keep _ (by omega) (by omega) _).trans hS.sep, (keep _ (by omega) (by omega) _).trans hS.sv, (keep _ (by omega) (by omega) _).trans hS.defers, ?_⟩, keep _ (by omega) (by omega) _⟩⟩
        have := World.putObj_heap_same (o := .loop (rec .ready none)) hlt3
        rw [hrec] at this ⊢
        exact this
      · have hend := run_endRound (P := Tryd.prog) (some .ret) hl3
        refine ⟨_, _, hend, .inr ⟨rfl, hIxput _ _ hP3, (keep _ (by omega) (by omega) _).trans hS.defers, ?_⟩⟩
        have := World.putObj_heap_same (o := .loop (rec .done (some .ret))) hlt3
        rw [hrec] at this ⊢
        exact this
    · rintro e W2 ⟨⟨v, rfl⟩, hS | ⟨hX, hD, hL⟩⟩
      · have hlt : w.heap.size + 1 < W2.heap.size := (Array.getElem?_eq_some_iff.1 hS.loop).1
        have := run_endLoop (P := Tryd.prog) hS.loop (by rw [hrec]; simp)
        rw [show (rec .ready none).pending = none by rw [hrec]] at this
        refine ⟨none, _, this, hdone _ (hIput _ _ _ hS.st) (by rw [World.putObj_size]; exact hlt) ((World.putObj_heap_other (by omega)).trans hS.defers)⟩
      · have hlt : w.heap.size + 1 < W2.heap.size := (Array.getElem?_eq_some_iff.1 hL).1
        have := run_endLoop (P := Tryd.prog) hL (by rw [hrec]; simp)
        rw [show (rec .done (some .ret)).pending = some .ret by rw [hrec]] at this
        refine ⟨some .ret, _, this, hleft _ (hIxput _ _ hX) (by rw [World.putObj_size]; exact hlt) ((World.putObj_heap_other (by omega)).trans hD)⟩
end Go.Proofs.YtjfmlfakdijfjaaDoor
