/- The contracts of the two calls of an ideal Maker. -/
import Derived.Test.YtigocnaminkodaaDoorMacIdeal
namespace Go.Proofs.YtigocnaminkodaaDoor
open Go.ChangeShapes Go.WideShapes Go.ChangeAt Go.RowKit
set_option linter.unusedVariables false

theorem IdealAt.at {w : World} {g b : Nat} {made : List (List UInt8)} (h : IdealAt w g b made) : w.cell? ⟨g, 0, none⟩ = some (.map (some b)) := by
  rw [cell_of_row w g 0 _ _ _ h.cell]; rfl
section
variable {ops : Array Oper} {Q : Exit → Act → World → Prop} {G : Fact} {o : Oper} {a : Act} {w : World}
theorem ok_nilCheck (hg : Region.wanted o (yielded ops a.tmps) = true) (x : Operand) (ho : o.op = .nilCheck x) (p : Addr) (hx : a.eval x = .pointer (some p)) : StepOk Tryd.prog ops Q (Fact.is (.pointer (some p))) o a w :=
  ok_same hg _ (by simp [execOp, ho, hx]) rfl
theorem ok_field0 (hg : Region.wanted o (yielded ops a.tmps) = true) (x : Operand) (ho : o.op = .fieldAddr 76 x 0) (g : Nat) (hx : a.eval x = .pointer (some ⟨g, 0, none⟩)) : StepOk Tryd.prog ops Q (Fact.is (.pointer (some ⟨g, 0, none⟩))) o a w :=
  ok_same hg _ (by simp only [execOp, ho, hx]; go_simp) rfl
theorem ok_loadMap (hg : Region.wanted o (yielded ops a.tmps) = true) (x : Operand) (ho : o.op = .load 74 x) (g b : Nat) (hx : a.eval x = .pointer (some ⟨g, 0, none⟩)) (hc : w.cell? ⟨g, 0, none⟩ = some (.map (some b))) : StepOk Tryd.prog ops Q (Fact.is (.map (some b))) o a w :=
  ok_same hg _ (by simp only [execOp, ho, hx]; go_simp) rfl
theorem ok_look (hg : Region.wanted o (yielded ops a.tmps) = true) (x y : Operand) (ho : o.op = .lookup 74 x y true) (b : Nat) (m : List UInt8) (made : List (List UInt8)) (n : Nat) (hx : a.eval x = .map (some b)) (hy : a.eval y = .string (strOf m)) (h : w.heap[b]? = some (.map (entsL made 0).toArray n)) (p : Option Nat) (hp : posL m made 0 = p) (k : Nat) (hk : p.getD 0 = k) (f : Bool) (hf : p.isSome = f) :
    StepOk Tryd.prog ops Q (Fact.is (.tuple #[.int .u64 (k : Int), .bool f])) o a w := by
  subst hf hk hp
  exact ok_same hg _ (by have := run_look h m; simp [execOp, ho, hx, hy, this]) rfl
theorem ok_extract (hg : Region.wanted o (yielded ops a.tmps) = true) (x : Operand) (i : Nat) (ho : o.op = .extract x i) (vs : Array Value) (v : Value) (hx : a.eval x = .tuple vs) (hv : vs[i]? = some v) : StepOk Tryd.prog ops Q (Fact.is v) o a w :=
  ok_same hg _ (by simp [execOp, ho, hx, Instr.extract, hv]) rfl
end

/-- what an ideal Maker that makes leaves: all else as it was -/
structure MadeBut (w w' : World) (b : Nat) : Prop where
  os : w'.os = w.os
  tape : w'.tape = w.tape
  output : w'.output = w.output
  size : w.heap.size ≤ w'.heap.size
  block : ∀ k, k < w.heap.size → k ≠ b → w'.heap[k]? = w.heap[k]?
theorem MadeBut.of {w w' : World} (h : Grew w w') (b : Nat) : MadeBut w w' b := ⟨h.os, h.tape, h.output, h.size, fun k hk _ => h.block k hk⟩
theorem MadeBut.trans {a c d : World} {b : Nat} (h : MadeBut a c b) (k : MadeBut c d b) : MadeBut a d b :=
  ⟨k.os.trans h.os, k.tape.trans h.tape, k.output.trans h.output, Nat.le_trans h.size k.size, fun i hi hb => (k.block i (Nat.lt_of_lt_of_le hi h.size) hb).trans (h.block i hi hb)⟩
theorem MadeBut.below {w w' : World} {b B : Nat} (h : MadeBut w w' b) (hB : B ≤ b) (hs : B ≤ w.heap.size) : Below B w w' := ⟨h.os, h.tape, h.output, h.size, fun k hk => h.block k (by omega) (by omega)⟩

/-- the codes of what was made -/
def madeCode (made : List (List UInt8)) (msg : List UInt8) : List UInt8 := idealL ((posL msg made 0).getD made.length) msg

set_option maxHeartbeats 1000000 in
/-- Make of a message that was made -/
theorem idealAgain_any (g b : Nat) (made : List (List UInt8)) (A : Option Addr) (msg : List UInt8) (n c j : Nat) (w : World) (hI : IdealAt w g b made) (hj : posL msg made 0 = some j) (hm : made.length ≤ 1000000) (hT : Tabs w) (hp : PieceOk w ⟨A, c, msg⟩) (hn : msg.length = n) :
    Calls Tryd.prog 65 #[.pointer (some ⟨g, 0, none⟩), .slice A n c] w (Coded w (idealL j msg)) := by
  subst hn
  have hjl := posL_lt hj
  go_enter Tryd.func65, Tryd.ntmps65
  go_wp2_with fail
  refine region_inv [Fact.is (.pointer (some ⟨g, 0, none⟩)), Fact.is (.pointer (some ⟨g, 0, none⟩)), Fact.is (.pointer (some ⟨g, 0, none⟩)), Fact.is (.map (some b)), Fact.piece msg, Fact.str msg, Fact.is (.tuple #[.int .u64 (j : Int), .bool true]), Fact.is (.tuple #[.int .u64 (j : Int), .bool true]), Fact.is (.int .u64 (j : Int)), Fact.is (.bool true), Fact.is (.int .u64 (j : Int)), Fact.is (.bool true)] (by kernel_rfl) (by kernel_rfl) ⟨fun a w1 m => ?_, fun a w1 m => ?_, fun a w1 m => ?_, fun a w1 m => ?_, fun a w1 m => ?_, fun a w1 m => ?_, fun a w1 m => ?_, fun a w1 m => ?_, fun a w1 m => ?_, fun a w1 m => ?_, fun a w1 m => ?_, fun a w1 m => ?_, trivial⟩ ?_
  · exact ok_move (wanted_none rfl) (.tmp 0) rfl (m.old 0 rfl)
  · exact ok_nilCheck (wanted_none rfl) (.tmp 8) rfl _ (m.has 0 8 rfl rfl)
  · exact ok_field0 (wanted_none rfl) (.tmp 9) rfl g (m.has 1 9 rfl rfl)
  · exact ok_loadMap (wanted_none rfl) (.tmp 10) rfl g b (m.has 2 10 rfl rfl) (hI.keep m.grew).at
  · exact ok_move (wanted_none rfl) (.tmp 1) rfl (by rw [m.old 1 rfl]; exact ⟨A, c, rfl, hp.keep m.grew⟩)
  · exact ok_str (wanted_none rfl) (.tmp 12) rfl _ (m.has 4 12 rfl rfl)
  · exact ok_look (wanted_none rfl) (.tmp 11) (.tmp 13) rfl b msg made _ (m.has 3 11 rfl rfl) (m.has 5 13 rfl rfl) (hI.keep m.grew).map _ hj j rfl true rfl
  · exact ok_move (wanted_none rfl) (.tmp 14) rfl (m.has 6 14 rfl rfl)
  · exact ok_extract (wanted_none rfl) (.tmp 7) 0 rfl _ _ (m.has 7 7 rfl rfl) rfl
  · exact ok_extract (wanted_none rfl) (.tmp 7) 1 rfl _ _ (m.has 7 7 rfl rfl) rfl
  · exact ok_assign (wanted_none rfl) (.tmp 15) rfl (m.has 8 15 rfl rfl)
  · exact ok_assign (wanted_none rfl) (.tmp 16) rfl (m.has 9 16 rfl rfl)
  intro f w2 hg hf
  obtain h10 : f 10 = .int .u64 (j : Int) := hf 10 (by decide)
  obtain h11 : f 11 = .bool true := hf 11 (by decide)
  clear hf
  simp only [putAll, Act.put, List.setIfInBounds_toArray, List.set_cons_succ, List.set_cons_zero]
  have HC := hideIt (idealCode_any j A msg msg.length c w2 (by omega) (hT.keep hg) (hp.keep hg) rfl)
  have hG := hideIt hg
  clear hg hI hT hp
  go_wp2_with fail
  refine HC.out.mono ?_
  rintro e w3 ⟨v, rfl, h3, b3⟩
  have R : Hid (Coded w (idealL j msg) (.returned v) w3) := hideIt ⟨v, rfl, by
    obtain ⟨g', q1, q2, q3⟩ := h3
    have := hG.out.size
    exact ⟨g', by omega, q2, own_base q3 (by omega)⟩, below_then hG.out b3⟩
  clear h3 b3 HC
  go_wp2_with fail
  go_ret
  exact R.out

theorem wpList_push {ops : Array Oper} {rest : List Oper} {o : Oper} {a : Act} {w : World} {Q : Exit → Act → World → Prop} (hgd : o.guard = none) (x y z : Operand) (ho : o.op = .mapUpdate 74 x y z) (b : Nat) (m : List UInt8) (made : List (List UInt8)) (hx : a.eval x = .map (some b)) (hy : a.eval y = .string (strOf m)) (hz : a.eval z = .int .u64 (made.length : Int)) (h : w.heap[b]? = some (.map (entsL made 0).toArray made.length)) (hp : posL m made 0 = none)
    (X : World) (hX : ChangeMaps.setBlock w b (.map (entsL (made ++ [m]) 0).toArray (made ++ [m]).length) = X) (k : wpList Tryd.prog ops Q rest (a.put o.dst undef) X) : wpList Tryd.prog ops Q (o :: rest) a w := by
  subst hX
  refine wpList_plain hgd fun K hK => ?_
  have := run_push h m hp
  unfold Oper.wp
  simp [execOp, ho, hx, hy, hz, this]
  rw [show (made ++ [m]).length = made.length + 1 by simp] at k
  exact hK _ _ k
/-- a row that was there ahead of a map is not in it -/
theorem PieceOk.away {w : World} {A : Option Addr} {c : Nat} {bs : List UInt8} (h : PieceOk w ⟨A, c, bs⟩) {b : Nat} (hb : w.heap.size ≤ b) : ∀ q off, A = some ⟨q, off, none⟩ → 0 < bs.length → q ≠ b := fun q off e hn => by
  obtain ⟨q', off', e', hq, _⟩ := h.bytes hn
  simp only at e'
  rw [e] at e'
  cases e'
  omega
theorem IdealAt.made {w w' : World} {g b g' b' : Nat} {made : List (List UInt8)} (h : IdealAt w g b made) (hm : MadeBut w w' b') (h1 : g ≠ b') (h2 : b ≠ b') : IdealAt w' g b made :=
  ⟨(hm.block g (Array.getElem?_eq_some_iff.1 h.cell).1 h1).trans h.cell, (hm.block b (Array.getElem?_eq_some_iff.1 h.map).1 h2).trans h.map⟩
theorem IdealAt.lt {w : World} {g b : Nat} {made : List (List UInt8)} (h : IdealAt w g b made) : g < w.heap.size ∧ b < w.heap.size := ⟨(Array.getElem?_eq_some_iff.1 h.cell).1, (Array.getElem?_eq_some_iff.1 h.map).1⟩
theorem any_one (m : List UInt8) : ((posL m [m] 0).any fun j => decide (idealL j m = idealL 0 m)) = true := by
  have h : posL m [m] 0 = some 0 := by simp [posL]
  rw [h, Option.any_some]
  exact decide_eq_true rfl
theorem any_none (m x : List UInt8) : ((posL m [] 0).any fun j => decide (idealL j m = x)) = false := rfl
/-- what Make leaves -/
def MadeNow (w : World) (g b : Nat) (made : List (List UInt8)) (l : List UInt8) (e : Ending) (w' : World) : Prop :=
  ∃ v, e = .returned v ∧ (Fact.own w.heap.size 32 l).p v w' ∧ IdealAt w' g b made ∧ MadeBut w w' b
set_option maxHeartbeats 1000000 in
/-- Make of a message that was not made -/
theorem idealNew_any (g b : Nat) (made : List (List UInt8)) (A : Option Addr) (msg : List UInt8) (n c : Nat) (w : World) (hI : IdealAt w g b made) (hj : posL msg made 0 = none) (hm : made.length ≤ 1000000) (hT : Tabs w) (hb2 : 2 ≤ b) (hp : PieceOk w ⟨A, c, msg⟩) (hpb : ∀ q off, A = some ⟨q, off, none⟩ → 0 < msg.length → q ≠ b) (hn : msg.length = n) :
    Calls Tryd.prog 65 #[.pointer (some ⟨g, 0, none⟩), .slice A n c] w (MadeNow w g b (made ++ [msg]) (idealL made.length msg)) := by
  subst hn
  go_enter Tryd.func65, Tryd.ntmps65
  go_wp2_with fail
  refine region_inv [Fact.is (.pointer (some ⟨g, 0, none⟩)), Fact.is (.pointer (some ⟨g, 0, none⟩)), Fact.is (.pointer (some ⟨g, 0, none⟩)), Fact.is (.map (some b)), Fact.piece msg, Fact.str msg, Fact.is (.tuple #[.int .u64 ((0 : Nat) : Int), .bool false]), Fact.is (.tuple #[.int .u64 ((0 : Nat) : Int), .bool false]), Fact.is (.int .u64 ((0 : Nat) : Int)), Fact.is (.bool false), Fact.is (.int .u64 ((0 : Nat) : Int)), Fact.is (.bool false)] (by kernel_rfl) (by kernel_rfl) ⟨fun a w1 m => ?_, fun a w1 m => ?_, fun a w1 m => ?_, fun a w1 m => ?_, fun a w1 m => ?_, fun a w1 m => ?_, fun a w1 m => ?_, fun a w1 m => ?_, fun a w1 m => ?_, fun a w1 m => ?_, fun a w1 m => ?_, fun a w1 m => ?_, trivial⟩ ?_
  · exact ok_move (wanted_none rfl) (.tmp 0) rfl (m.old 0 rfl)
  · exact ok_nilCheck (wanted_none rfl) (.tmp 8) rfl _ (m.has 0 8 rfl rfl)
  · exact ok_field0 (wanted_none rfl) (.tmp 9) rfl g (m.has 1 9 rfl rfl)
  · exact ok_loadMap (wanted_none rfl) (.tmp 10) rfl g b (m.has 2 10 rfl rfl) (hI.keep m.grew).at
  · exact ok_move (wanted_none rfl) (.tmp 1) rfl (by rw [m.old 1 rfl]; exact ⟨A, c, rfl, hp.keep m.grew⟩)
  · exact ok_str (wanted_none rfl) (.tmp 12) rfl _ (m.has 4 12 rfl rfl)
  · exact ok_look (wanted_none rfl) (.tmp 11) (.tmp 13) rfl b msg made _ (m.has 3 11 rfl rfl) (m.has 5 13 rfl rfl) (hI.keep m.grew).map _ hj 0 rfl false rfl
  · exact ok_move (wanted_none rfl) (.tmp 14) rfl (m.has 6 14 rfl rfl)
  · exact ok_extract (wanted_none rfl) (.tmp 7) 0 rfl _ _ (m.has 7 7 rfl rfl) rfl
  · exact ok_extract (wanted_none rfl) (.tmp 7) 1 rfl _ _ (m.has 7 7 rfl rfl) rfl
  · exact ok_assign (wanted_none rfl) (.tmp 15) rfl (m.has 8 15 rfl rfl)
  · exact ok_assign (wanted_none rfl) (.tmp 16) rfl (m.has 9 16 rfl rfl)
  intro f w2 hg hf
  obtain h11 : f 11 = .bool false := hf 11 (by decide)
  clear hf
  simp only [putAll, Act.put, List.setIfInBounds_toArray, List.set_cons_succ, List.set_cons_zero]
  have hI2 := hI.keep hg
  have hp2 := hp.keep hg
  have hT2 := hT.keep hg
  have hc2 := hI2.at
  have hlen : (Builtin.len_ #[74] 3 #[.map (some b)]).run Tryd.prog w2 = .ok (.int .i64 (made.length : Int)) w2 := by
    have e : (entsL made 0).length = made.length := by
      have : ∀ (l : List (List UInt8)) (i : Nat), (entsL l i).length = l.length := by
        intro l; induction l with
        | nil => intro i; rfl
        | cons x xs ih => intro i; simp [entsL, ih]
      exact this made 0
    simp [Builtin.len_, run_underlying Tryd.underlying74, MapKept.run_getObj_map hI2.map, e]
    rfl
  have hmi : (made.length : Int) ≤ 1000000 := by omega
  have HG := hideIt hg
  have HI2 := hideIt hI2
  have HP2 := hideIt hp2
  have HT2 := hideIt hT2
  have HM := hideIt hm
  clear hg hI hT hp hI2 hp2 hT2 hm
  go_wp2_with fail
  refine region_tail 7 [Fact.is (.pointer (some ⟨g, 0, none⟩)), Fact.is (.pointer (some ⟨g, 0, none⟩)), Fact.is (.pointer (some ⟨g, 0, none⟩)), Fact.is (.map (some b)), Fact.piece msg, Fact.str msg, Fact.is (.int .u64 (made.length : Int))] (by kernel_rfl) (by kernel_rfl) (by kernel_rfl) ⟨fun a w1 m => ?_, fun a w1 m => ?_, fun a w1 m => ?_, fun a w1 m => ?_, fun a w1 m => ?_, fun a w1 m => ?_, fun a w1 m => ?_, trivial⟩ ?_
  · exact ok_move (wanted_none rfl) (.tmp 0) rfl (m.old 0 rfl)
  · exact ok_nilCheck (wanted_none rfl) (.tmp 25) rfl _ (m.has 0 25 rfl rfl)
  · exact ok_field0 (wanted_none rfl) (.tmp 26) rfl g (m.has 1 26 rfl rfl)
  · exact ok_loadMap (wanted_none rfl) (.tmp 27) rfl g b (m.has 2 27 rfl rfl) (HI2.out.keep m.grew).at
  · exact ok_move (wanted_none rfl) (.tmp 1) rfl (by rw [m.old 1 rfl]; exact ⟨A, c, rfl, HP2.out.keep m.grew⟩)
  · exact ok_str (wanted_none rfl) (.tmp 29) rfl _ (m.has 4 29 rfl rfl)
  · exact ok_move (wanted_none rfl) (.tmp 5) rfl (m.old 5 rfl)
  intro f w4 hg4 hf
  obtain h3 : f 3 = .map (some b) := hf 3 (by decide)
  obtain h5 : f 5 = .string (strOf msg) := hf 5 (by decide)
  obtain h6 : f 6 = .int .u64 (made.length : Int) := hf 6 (by decide)
  clear hf
  have hI4 := HI2.out.keep hg4
  generalize eX : ChangeMaps.setBlock w4 b (.map (entsL (made ++ [msg]) 0).toArray (made ++ [msg]).length) = X
  have hbX : MadeBut w4 X b := eX ▸ ⟨rfl, rfl, rfl, by simp [ChangeMaps.setBlock], fun k _ hk => ChangeMaps.heap_setBlock_other hI4.map _ hk⟩
  have hgb : g ≠ b := fun e => by have h1 := hI4.cell; rw [e, hI4.map] at h1; cases h1
  have hIX : IdealAt X g b (made ++ [msg]) := ⟨(hbX.block g (Array.getElem?_eq_some_iff.1 hI4.cell).1 hgb).trans hI4.cell, eX ▸ ChangeMaps.heap_setBlock_same hI4.map _⟩
  have hpX : PieceOk X ⟨A, c, msg⟩ := by
    have h := HP2.out.keep hg4
    refine ⟨fun hn => ?_, h.fits, h.most, h.long, h.nil⟩
    obtain ⟨q, off, e, hq, hc⟩ := h.bytes hn
    refine ⟨q, off, e, Nat.lt_of_lt_of_le hq hbX.size, fun j hj => ?_⟩
    rw [← hc j hj]
    simp only [World.cell?, hbX.block q hq (hpb q off e hn)]
  have hTX : Tabs X := (HT2.out.keep hg4).below (hbX.below hb2 (by have := (HT2.out.keep hg4).size; omega)) (by omega)
  have HC := hideIt (idealCode_any made.length A msg msg.length c X (by have := HM.out; omega) hTX hpX rfl)
  have HBX : Hid (MadeBut w X b) := hideIt ((MadeBut.of (below_then HG.out hg4) b).trans hbX)
  have HIX := hideIt hIX
  have HI4 := hideIt hI4.map
  have EX := hideIt eX
  clear hI4 hbX hIX hpX hTX eX hg4 hlen hc2
  simp only [putAll, Act.put, List.take, List.drop, List.setIfInBounds_toArray, List.set_cons_succ, List.set_cons_zero]
  refine wpList_push rfl (.tmp 28) (.tmp 30) (.tmp 31) rfl b msg made h3 h5 h6 HI4.out hj X EX.out ?_
  go_wp2_with fail
  refine HC.out.mono ?_
  rintro e w5 ⟨v, rfl, h7, b7⟩
  have R : Hid (MadeNow w g b (made ++ [msg]) (idealL made.length msg) (.returned v) w5) := hideIt ⟨v, rfl, by
    obtain ⟨g', q1, q2, q3⟩ := h7
    have := HBX.out.size
    exact ⟨g', by omega, q2, own_base q3 (by omega)⟩, HIX.out.keep b7, HBX.out.trans (MadeBut.of b7 b)⟩
  clear h7 b7 HC
  go_wp2_with fail
  go_ret
  exact R.out
set_option maxHeartbeats 1000000 in
/-- Prove of an ideal Maker -/
theorem idealProve_any (g b : Nat) (made : List (List UInt8)) (A B : Option Addr) (msg code : List UInt8) (n c n' d : Nat) (w : World) (hI : IdealAt w g b made) (hm : made.length ≤ 1000000) (hT : Tabs w) (hp : PieceOk w ⟨A, c, msg⟩) (hn : msg.length = n) (hq : PieceOk w ⟨B, d, code⟩) (hn' : code.length = n') (r : Bool) (hr : ((posL msg made 0).any fun j => decide (idealL j msg = code)) = r) :
    Calls Tryd.prog 66 #[.pointer (some ⟨g, 0, none⟩), .slice A n c, .slice B n' d] w fun e w' => e = .returned (.bool r) ∧ Below w.heap.size w w' := by
  subst hn hn'
  obtain ⟨k, ok, hk1, hk2⟩ : ∃ k ok, (posL msg made 0).getD 0 = k ∧ (posL msg made 0).isSome = ok := ⟨_, _, rfl, rfl⟩
  go_enter Tryd.func66, Tryd.ntmps66
  go_wp2_with fail
  refine region_inv [Fact.is (.pointer (some ⟨g, 0, none⟩)), Fact.is (.pointer (some ⟨g, 0, none⟩)), Fact.is (.pointer (some ⟨g, 0, none⟩)), Fact.is (.map (some b)), Fact.piece msg, Fact.str msg, Fact.is (.tuple #[.int .u64 (k : Int), .bool ok]), Fact.is (.tuple #[.int .u64 (k : Int), .bool ok]), Fact.is (.int .u64 (k : Int)), Fact.is (.bool ok), Fact.is (.int .u64 (k : Int)), Fact.is (.bool ok)] (by kernel_rfl) (by kernel_rfl) ⟨fun a w1 m => ?_, fun a w1 m => ?_, fun a w1 m => ?_, fun a w1 m => ?_, fun a w1 m => ?_, fun a w1 m => ?_, fun a w1 m => ?_, fun a w1 m => ?_, fun a w1 m => ?_, fun a w1 m => ?_, fun a w1 m => ?_, fun a w1 m => ?_, trivial⟩ ?_
  · exact ok_move (wanted_none rfl) (.tmp 0) rfl (m.old 0 rfl)
  · exact ok_nilCheck (wanted_none rfl) (.tmp 10) rfl _ (m.has 0 10 rfl rfl)
  · exact ok_field0 (wanted_none rfl) (.tmp 11) rfl g (m.has 1 11 rfl rfl)
  · exact ok_loadMap (wanted_none rfl) (.tmp 12) rfl g b (m.has 2 12 rfl rfl) (hI.keep m.grew).at
  · exact ok_move (wanted_none rfl) (.tmp 1) rfl (by rw [m.old 1 rfl]; exact ⟨A, c, rfl, hp.keep m.grew⟩)
  · exact ok_str (wanted_none rfl) (.tmp 14) rfl _ (m.has 4 14 rfl rfl)
  · exact ok_look (wanted_none rfl) (.tmp 13) (.tmp 15) rfl b msg made _ (m.has 3 13 rfl rfl) (m.has 5 15 rfl rfl) (hI.keep m.grew).map _ rfl k hk1 ok hk2
  · exact ok_move (wanted_none rfl) (.tmp 16) rfl (m.has 6 16 rfl rfl)
  · exact ok_extract (wanted_none rfl) (.tmp 9) 0 rfl _ _ (m.has 7 9 rfl rfl) rfl
  · exact ok_extract (wanted_none rfl) (.tmp 9) 1 rfl _ _ (m.has 7 9 rfl rfl) rfl
  · exact ok_assign (wanted_none rfl) (.tmp 17) rfl (m.has 8 17 rfl rfl)
  · exact ok_assign (wanted_none rfl) (.tmp 18) rfl (m.has 9 18 rfl rfl)
  intro f w2 hg hf
  obtain h10 : f 10 = .int .u64 (k : Int) := hf 10 (by decide)
  obtain h11 : f 11 = .bool ok := hf 11 (by decide)
  clear hf
  simp only [putAll, Act.put, List.setIfInBounds_toArray, List.set_cons_succ, List.set_cons_zero]
  cases hpos : posL msg made 0 with
  | none =>
    rw [hpos] at hk2 hr
    obtain rfl : false = ok := hk2
    obtain rfl : false = r := hr
    clear hI hT hp hq
    have HG := hideIt hg
    clear hg
    go_wp2_with fail
    go_ret
    exact ⟨rfl, HG.out⟩
  | some j =>
    rw [hpos] at hk1 hk2 hr
    obtain rfl : j = k := hk1
    obtain rfl : true = ok := hk2
    have hjl := posL_lt hpos
    replace hr : decide (idealL j msg = code) = r := hr
    have hm1 := piece_of hq rfl
    have HC := hideIt (idealCode_any j A msg msg.length c w2 (by omega) (hT.keep hg) (hp.keep hg) rfl)
    have HG := hideIt hg
    have HQ := hideIt (hq.keep hg)
    have HM1 := hideIt hm1
    clear hg hI hT hp hq hm1
    go_wp2_with fail
    refine HC.out.mono ?_
    rintro e w3 ⟨v, rfl, ⟨g', q1, rfl, q3⟩, b3⟩
    have hE := equal_any (some ⟨g', 0, none⟩) B (idealL j msg) code 32 32 code.length d w3 (own_bytes q3) (HQ.out.keep b3).bytes (idealL_length _ _) rfl (by omega) (by have := HM1.out; omega)
    rw [hr] at hE
    have B3 := hideIt (below_then HG.out b3)
    clear q3 b3 HC
    go_wp2_with fail
    refine hE.mono ?_
    rintro e w4 ⟨rfl, b4⟩
    have B4 := hideIt (below_then B3.out b4)
    clear hE b4
    go_wp2_with fail
    go_ret
    exact ⟨rfl, B4.out⟩
end Go.Proofs.YtigocnaminkodaaDoor
