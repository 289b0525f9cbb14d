/- What arrays of eight words, rows that are made, and numbers that are widened owe; Block and its reference of any bytes. -/
import Derived.Test.YtigocnaminkodaaDoorFacts2
import Derived.Test.YtigocnaminkodaaDoorRefSum
import Derived.ChangeKeysEq
namespace Go.Proofs.YtigocnaminkodaaDoor
open Go.ChangeShapes Go.WideShapes Go.ChangeAt Go.RowKit
set_option linter.unusedVariables false
theorem run_eq8 (l : List Nat) (hl : Words8 l) (w : World) : (Op.equalIn 10000 25 (.agg (wordsC l)) (.agg (wordsC l))).run Tryd.prog w = .ok true w := by
  obtain ⟨i0, hi, _⟩ := info_parts info_u32
  have hc : Tryd.prog.cellsOf 24 = 1 := by kernel_rfl
  have hsz : l.length = 8 := hl.1
  have hpart : ∀ i, i < 8 → ∃ x : Int, (part 24 (wordsC l) (i * 1)).run Tryd.prog w = .ok (.int .u32 x) w := fun i h8 => by
    refine ⟨(l[i]'(by omega) : Nat), ?_⟩
    have hat := wordsC_at l i (by omega)
    rw [Nat.mul_one]
    simp [part, hat]
  have hsame' : ∀ (d : Nat) (x : Int), (Op.equalIn (d + 1) 24 (.int .u32 x) (.int .u32 x)).run Tryd.prog w = .ok true w := fun d x => by
    unfold Op.equalIn
    simp only [Sem.run_bind, run_underlying Tryd.underlying24, Result.andThen_ok]
    simp
  have hsame : ∀ x : Int, (Op.equalIn 9999 24 (.int .u32 x) (.int .u32 x)).run Tryd.prog w = .ok true w := fun x => hsame' 9998 x
  rw [run_equalIn_array w 9999 (wordsC l) (wordsC l) Tryd.underlying25 hi, hc]
  have : ∀ is : List Nat, (∀ i ∈ is, i < 8) → (Op.eqItems 9999 24 1 (wordsC l) (wordsC l) is).run Tryd.prog w = .ok true w := by
    intro is
    induction is with
    | nil => intro _; rfl
    | cons i is ih =>
      intro h
      obtain ⟨x, hx⟩ := hpart i (h i (by simp))
      simp only [Op.eqItems, Sem.run_bind, hx, Result.andThen_ok, hsame x]
      simpa using ih fun k hk => h k (by simp [hk])
  exact this (List.range 8) (fun i hi => List.mem_range.1 hi)
section
variable {ops : Array Oper} {Q : Exit → Act → World → Prop} {G : Fact} {o : Oper} {a : Act} {w : World}
theorem ok_load8 (hg : Region.wanted o (yielded ops a.tmps) = true) (x : Operand) (ho : o.op = .load 25 x) (g : Nat) (ty : TypeId) (l : List Nat) (hx : a.eval x = .pointer (some ⟨g, 0, none⟩)) (hA : Arr w g ty l) (hl : l.length = 8) :
    StepOk Tryd.prog ops Q (Fact.is (wordsV l)) o a w :=
  ok_same hg _ (by
    have := run_loadVar_row (P := Tryd.prog) w g ty 25 (wordsC l) (0, 0) _ hA Tryd.underlying25 rfl (by rw [wordsC_size, hl]; exact info_words8)
    simp [execOp, ho, hx, Instr.loadAt, Instr.sureAddr, this]
    rfl) rfl
theorem ok_make (hg : Region.wanted o (yielded ops a.tmps) = true) (x : Operand) (ho : o.op = .makeSlice 22 x x) (n : Nat) (hx : a.eval x = .int .i64 (n : Int)) (hn : n ≤ 1000) : StepOk Tryd.prog ops Q (Fact.piece (List.replicate n 0)) o a w := by
  obtain ⟨i0, hi, hz0, hz1, hz2⟩ := info_parts info_u8
  have hr := run_make (P := Tryd.prog) w 22 5 i0 (.int .u8 0) Tryd.underlying22 hi hz0 .i64 .i64 n n (by omega) (by omega) (by rw [hz2]; omega) (by omega)
  simp only [Int.toNat_natCast, hz1, Nat.mul_one] at hr
  have hb : Grew w (w.alloc (.cells (madeCells (Value.int .u8 0).cells n) 5)) := below_one (Below.refl _ _) _
  refine ok_run hg (.slice (some ⟨w.heap.size, 0, none⟩) n n) _ (by simp only [execOp, ho, hx, Sem.run_bind, hr, Result.andThen_ok, Sem.run_pure]) ⟨some ⟨w.heap.size, 0, none⟩, n, by rw [List.length_replicate], ?_⟩ hb
  refine piece_lit _ _ _ _ _ _ _ (heap_alloc_new w _) ?_ (by rw [List.length_replicate]; omega) (by omega)
  rw [show (Value.int .u8 0).cells = #[Value.int .u8 0] from rfl, toList_madeCells_one, List.length_replicate, List.take_of_length_le (by simp)]
  simp [cellsOf]
theorem ok_eq8 (hg : Region.wanted o (yielded ops a.tmps) = true) (x y : Operand) (t : TypeId) (ho : o.op = .binOp .eql 25 x y t) (l : List Nat) (hl : Words8 l) (h1 : a.eval x = wordsV l) (h2 : a.eval y = wordsV l) : StepOk Tryd.prog ops Q (Fact.is (.bool true)) o a w := by
  refine ok_same hg _ ?_ rfl
  simp only [execOp, ho, h1, h2]
  rw [wordsV_eq]
  have hr := run_eq8 l hl w
  go_simp
theorem ok_u16u64 (hg : Region.wanted o (yielded ops a.tmps) = true) (x : Operand) (ho : o.op = .convert 26 23 x) (p : Int) (h1 : a.eval x = .int .u16 p) (hp : 0 ≤ p) (hp' : p < 65536) : StepOk Tryd.prog ops Q (Fact.is (.int .u64 p)) o a w := by
  refine ok_same hg _ ?_ rfl
  simp only [execOp, ho, h1]
  go_simp
  rw [IntKind.wrap_u64]; omega
end
/-- sha.Block, of however many bytes -/
theorem block_all (h : List Nat) (A : Option Addr) (bs : List UInt8) (n c : Nat) (w : World) (hh : Words8 h) (hT : Tabs w) (hp : PieceOk w ⟨A, c, bs⟩) (hn : bs.length = n) :
    Calls Tryd.prog 17 #[wordsV h, .slice A n c] w fun e w' => e = .returned (wordsV (blockL h bs)) ∧ Below w.heap.size w w' := by
  have h1 := hp.fits; have h2 := hp.most; have h3 := hp.long
  simp only at h1 h2 h3
  by_cases h64 : n = 64
  · subst h64
    exact block_is h A bs c w.heap.size w hh hT hp.bytes (Nat.le_refl _) hn (by omega) h2
  · have e : blockL h bs = h := by unfold blockL; rw [if_neg (by omega)]
    rw [e]
    exact block_not h A n c w hh h64 (by omega)
theorem refblock_all (h : List Nat) (A : Option Addr) (bs : List UInt8) (n c : Nat) (w : World) (hh : Words8 h) (hp : PieceOk w ⟨A, c, bs⟩) (hn : bs.length = n) :
    Calls Tryd.prog 18 #[wordsV h, .slice A n c] w fun e w' => e = .returned (wordsV (blockL h bs)) ∧ Below w.heap.size w w' := by
  have h1 := hp.fits; have h2 := hp.most; have h3 := hp.long
  simp only at h1 h2 h3
  by_cases h64 : n = 64
  · subst h64
    exact refblock_is h A bs c w.heap.size w hh hp.bytes (Nat.le_refl _) hn (by omega) h2
  · have e : blockL h bs = h := by unfold blockL; rw [if_neg (by omega)]
    rw [e]
    exact refblock_not h A n c w hh h64 (by omega)
theorem go_block : goFn Tryd.prog 17 = true := by kernel_rfl
theorem go_refblock : goFn Tryd.prog 18 = true := by kernel_rfl
theorem go_pad : goFn Tryd.prog 15 = true := by kernel_rfl
theorem go_refpad : goFn Tryd.prog 16 = true := by kernel_rfl
theorem go_refsum : goFn Tryd.prog 14 = true := by kernel_rfl
/-- rows of the call's own, as a fact -/
theorem fact_own {w : World} {base n : Nat} {v : Value} {bs : List UInt8} (h : w.ownsRow base 5 1 v n (cellsOf bs)) (hn : n ≤ 140737488355328) : (Fact.piece bs).p v w := by
  obtain ⟨A, c, rfl, hl, hp⟩ := own_pieceAny h hn
  exact ⟨A, c, by rw [hl], hp⟩
end Go.Proofs.YtigocnaminkodaaDoor
