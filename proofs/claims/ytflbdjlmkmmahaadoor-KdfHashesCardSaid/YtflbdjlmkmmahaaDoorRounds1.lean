/- The contract of the function that kdf.roundsOf hands out. -/
import Derived.Test.YtflbdjlmkmmahaaDoorRangeHash
namespace Go.Proofs.YtflbdjlmkmmahaaDoor
open Go.ChangeShapes Go.WideShapes Go.ChangeAt Go.RowKit
set_option linter.unusedVariables false
attribute [local go_sem] Oper.semAt_some

/-- where all lies: w: the world ahead of Hash; B: the hash's row -/
structure Seats where
  w : World
  B : Nat
  pB : Nat
  rB : Nat
  bU : Nat
  l : Nat
  D : Nat
  lp : Loop
  K : Option Addr
  kc : Nat
  pass : List UInt8
  salt : List UInt8
  k : Nat
structure Seats.Ok (s : Seats) : Prop where
  size : s.w.heap.size = s.B
  tabs : Tabs s.w
  piece : PieceOk s.w ⟨s.K, s.kc, s.pass⟩
  p1 : s.B + 2 ≤ s.pB
  p2 : s.B + 2 ≤ s.rB
  p3 : s.B + 2 ≤ s.bU
  p4 : s.B + 2 ≤ s.l
  p5 : s.B + 2 ≤ s.D
  n1 : s.bU ≠ s.pB
  n2 : s.bU ≠ s.rB
  n3 : s.bU ≠ s.l
  n4 : s.bU ≠ s.D
/-- how all stands behind j rounds -/
structure RoundSt (s : Seats) (j : Nat) (W : World) : Prop where
  below : Below s.B s.w W
  row : HashRow s.B (hashL s.pass s.salt j) W
  pass : W.heap[s.pB]? = some (.cells #[.slice s.K s.pass.length s.kc] 22 (0, 0))
  rounds : W.heap[s.rB]? = some (.cells #[.int .i64 (s.k : Int)] 3 (0, 0))
  hand : ∃ A c, W.heap[s.bU]? = some (.cells #[.slice A (uL s.pass s.salt j).length c] 22 (0, 0)) ∧ PieceOk W ⟨A, c, uL s.pass s.salt j⟩
  loop : W.heap[s.l]? = some (.loop s.lp)
  defers : W.heap[s.D]? = some (.deferred (some []))
theorem RoundSt.tabs {s : Seats} {j : Nat} {W : World} (st : RoundSt s j W) (ok : s.Ok) : Tabs W := ok.tabs.below st.below (by have := ok.tabs.size; have := ok.size; omega)
theorem RoundSt.key {s : Seats} {j : Nat} {W : World} (st : RoundSt s j W) (ok : s.Ok) : PieceOk W ⟨s.K, s.kc, s.pass⟩ := ok.piece.keep (by rw [ok.size]; exact st.below)
/-- behind a Round, and its store -/
structure MidSt (s : Seats) (j : Nat) (W : World) (g : Nat) : Prop where
  below : Below s.B s.w W
  row : HashRow s.B (hashL s.pass s.salt j) W
  pass : W.heap[s.pB]? = some (.cells #[.slice s.K s.pass.length s.kc] 22 (0, 0))
  rounds : W.heap[s.rB]? = some (.cells #[.int .i64 (s.k : Int)] 3 (0, 0))
  hand : W.heap[s.bU]? = some (.cells #[.slice (some ⟨g, 0, none⟩) 32 32] 22 (0, 0))
  urow : URow s.B (uL s.pass s.salt (j + 1)) g W
  loop : W.heap[s.l]? = some (.loop s.lp)
  defers : W.heap[s.D]? = some (.deferred (some []))
theorem RoundSt.mid {s : Seats} {j g : Nat} {W W2 : World} (st : RoundSt s j W) (ok : s.Ok) (hg : W.heap.size ≤ g) (hU : W2.ownsRow W.heap.size 5 1 (.slice (some ⟨g, 0, none⟩) 32 32) 32 (cellsOf (uL s.pass s.salt (j + 1)))) (hb : Grew W W2) : MidSt s j (W2.setCell ⟨s.bU, 0, none⟩ (.slice (some ⟨g, 0, none⟩) 32 32)) g := by
  obtain ⟨A, c, hh, hp⟩ := st.hand
  have hlt : ∀ {k : Nat} {o : Obj}, W.heap[k]? = some o → k < W.heap.size := fun h => (Array.getElem?_eq_some_iff.1 h).1
  have p1 := ok.p1; have p2 := ok.p2; have p3 := ok.p3; have p4 := ok.p4; have p5 := ok.p5
  have go : ∀ {k : Nat} {o : Obj}, W.heap[k]? = some o → k ≠ s.bU → (W2.setCell ⟨s.bU, 0, none⟩ (.slice (some ⟨g, 0, none⟩) 32 32)).heap[k]? = some o := fun {k o} h hn => by
    rw [heap_setCell_other _ _ _ _ (by exact hn), hb.block _ (hlt h)]; exact h
  have hbB := hlt st.row.box
  have hUl := hlt hh
  refine ⟨?_, ⟨own_keep st.row.own ?_, go st.row.box (by omega)⟩, go st.pass ok.n1.symm, go st.rounds ok.n2.symm, ?_, ?_, go st.loop ok.n3.symm, go st.defers ok.n4.symm⟩
  · exact (st.below.trans (hb.mono (by omega))).setCell (p := ⟨s.bU, 0, none⟩) (by show s.B ≤ s.bU; omega) _
  · rw [heap_setCell_other _ _ _ _ (by show s.B ≠ s.bU; omega), hb.block _ (by omega)]
  · have := heap_setCell_same W2 s.bU 0 _ _ (.slice (some ⟨g, 0, none⟩) 32 32) ((hb.block _ hUl).trans hh)
    simpa using this
  · refine own_base (own_keep hU ?_) (by omega)
    rw [heap_setCell_other _ _ _ _ (by show g ≠ s.bU; omega)]
theorem MidSt.next {s : Seats} {j g : Nat} {W W2 : World} (st : MidSt s j W g) (ok : s.Ok) (hg : W.grownBy W2 (some s.B)) (hH : HashRow s.B (xorL (hashL s.pass s.salt j) (uL s.pass s.salt (j + 1))) W2) : RoundSt s (j + 1) W2 := by
  have hlt : ∀ {k : Nat} {o : Obj}, W.heap[k]? = some o → k < W.heap.size := fun h => (Array.getElem?_eq_some_iff.1 h).1
  have p1 := ok.p1; have p2 := ok.p2; have p3 := ok.p3; have p4 := ok.p4; have p5 := ok.p5
  have go : ∀ {k : Nat} {o : Obj}, W.heap[k]? = some o → s.B + 2 ≤ k → W2.heap[k]? = some o := fun {k o} h hn => by
    rw [hg.block _ (hlt h) (by simp; omega)]; exact h
  have hu := own_lt st.urow
  have hl : (uL s.pass s.salt (j + 1)).length = 32 := uL_length _ _ _
  refine ⟨st.below.grown hg (by have := st.below.size; have := ok.size; omega) (by intro x hx; cases hx; omega), hH, go st.pass p1, go st.rounds p2, ⟨some ⟨g, 0, none⟩, 32, ?_, ?_⟩, go st.loop p4, go st.defers p5⟩
  · rw [hl]; exact go st.hand p3
  · exact own_piece (own_keep st.urow (hg.block _ hu.2 (by simp; omega))) (by omega)
set_option maxHeartbeats 1000000 in
theorem rounds1_in (n : Nat) (hn : 1 ≤ n) (s : Seats) (ok : s.Ok) (W : World) (st : RoundSt s 0 W) (hk1 : s.k ≤ 1000)
    (hY : ∀ (h u : List UInt8) (gu : Nat) (W : World), W.heap[s.l]? = some (.loop s.lp) → HashRow s.B h W → URow s.B u gu W →
        YieldAt Fence.wide (n - 1) Tryd.prog s.l #[.slice (some ⟨gu, 0, none⟩) 32 32] W fun e W' => e = .returned (.bool true) ∧ W.grownBy W' (some s.B) ∧ HashRow s.B (xorL h u) W') :
    CallsIn Fence.wide n Tryd.prog 23 #[.func (.yield s.l) #[] #[], .pointer (some ⟨s.rB, 0, none⟩), .pointer (some ⟨s.pB, 0, none⟩), .pointer (some ⟨s.bU, 0, none⟩)] W fun e W' => (∃ v, e = .returned v) ∧ RoundSt s s.k W' := by
  have hcR : W.cell? ⟨s.rB, 0, none⟩ = some (.int .i64 (s.k : Int)) := by rw [cell_of_row W _ _ _ _ _ st.rounds]; rfl
  have OK := hideIt ok
  have ST := hideIt st
  have HY := hideIt hY
  clear ok st hY
  refine callsIn_of_wp Tryd.func23 rfl trivial ?_ rfl
  simp only [Tryd.ntmps23, List.size_toArray, List.length_cons, List.length_nil, Nat.reduceAdd, Nat.reduceSub, Array.replicate_succ, Array.replicate_zero, List.push_toArray, List.append_toArray, List.nil_append, List.cons_append]
  gi_wp2
  gi_loopw [6] (fun i wr => ∃ j : Nat, j ≤ s.k ∧ i = .int .i64 j ∧ RoundSt s j wr) (fun i _ => s.k - (intOf i).toNat)
  case atStart => exact ⟨0, by omega, rfl, ST.out⟩
  case round =>
    clear ST
    obtain ⟨j, hj, rfl, st⟩ := hrel
    by_cases hlt : j < s.k
    · have hji : (j : Int) < (s.k : Int) := by omega
      have hc1 : wr.cell? ⟨s.pB, 0, none⟩ = some (.slice s.K s.pass.length s.kc) := by rw [cell_of_row wr _ _ _ _ _ st.pass]; rfl
      obtain ⟨A, c, hb, hp⟩ := st.hand
      have hc2 : wr.cell? ⟨s.bU, 0, none⟩ = some (.slice A (uL s.pass s.salt j).length c) := by rw [cell_of_row wr _ _ _ _ _ hb]; rfl
      have hf2 : wr.frozen? ⟨s.bU, 0, none⟩ = false := by simp [World.frozen?, hb]
      have hR := hideIt (round_any s.K s.pass s.pass.length s.kc A (uL s.pass s.salt j) (uL s.pass s.salt j).length c wr (st.tabs OK.out) (st.key OK.out) rfl hp rfl)
      have ST := hideIt st
      have HB := hideIt hb
      clear st hp hb
      generalize (uL s.pass s.salt j).length = un at *
      gi_wp2
      refine ⟨trivial, (callsIn_wide.2 hR.out).mono ?_⟩
      rintro e w2 ⟨v, rfl, ⟨g, hg, rfl, o2⟩, b2⟩
      have hlU := (Array.getElem?_eq_some_iff.1 HB.out).1
      have hc3 : w2.cell? ⟨s.bU, 0, none⟩ = some (.slice A un c) := (b2.cell (p := ⟨s.bU, 0, none⟩) hlU).trans hc2
      have hf3 : w2.frozen? ⟨s.bU, 0, none⟩ = false := (World.frozen?_of_block (b2.block s.bU hlU)).trans hf2
      have MD := hideIt (ST.out.mid OK.out hg o2 b2)
      clear hc1 hc2 hf2 hR ST HB o2 b2 hg hlU
      have hc4 : (w2.setCell ⟨s.bU, 0, none⟩ (.slice (some ⟨g, 0, none⟩) 32 32)).cell? ⟨s.bU, 0, none⟩ = some (.slice (some ⟨g, 0, none⟩) 32 32) := World.cell?_setCell_same _ _ _ hc3
      obtain ⟨fn, tmps, assign, body, hy, hRd⟩ := HY.out _ _ _ _ MD.out.loop MD.out.row MD.out.urow
      replace hRd := hideIt hRd
      gi_wp2
      refine hRd.out.mono ?_
      rintro e w4 ⟨rfl, g4, h4⟩
      have N := hideIt (MD.out.next OK.out g4 h4)
      clear g4 h4 hRd MD hc3 hf3 hc4 hy
      gi_wp2
      go_roundw
      case rel => exact ⟨j + 1, by omega, by go_num, N.out⟩
      case measure => simp [intOf]; omega
    · obtain rfl : j = s.k := by omega
      have N := hideIt st
      clear st
      gi_wp2
      go_end0
      exact ⟨⟨_, rfl⟩, N.out⟩
end Go.Proofs.YtflbdjlmkmmahaaDoor
