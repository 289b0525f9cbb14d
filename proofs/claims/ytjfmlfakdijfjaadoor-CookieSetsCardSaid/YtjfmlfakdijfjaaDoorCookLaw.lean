/- wicketmanlaw11's sets, reads, prefix: the program beside the reference. -/
import Derived.Test.YtjfmlfakdijfjaaDoorCookKnown
import Derived.Test.YtjfmlfakdijfjaaDoorCookRead
import Derived.Test.YtjfmlfakdijfjaaDoorRefCRead
namespace Go.Proofs.YtjfmlfakdijfjaaDoor
open Go.ChangeShapes Go.WideShapes Go.ChangeAt Go.RowKit
set_option linter.unusedVariables false
set_option linter.unusedSimpArgs false

theorem setC_two (p : PairL) (age : Int) : (setC p age).2 = 0 ∨ (setC p age).2 = 1 := by unfold setC; split <;> simp
theorem setC_len (p : PairL) (age : Int) : (setC p age).1.length ≤ p.1.length + p.2.length + 63 := by
  unfold setC
  by_cases h : setOk p age = true
  · rw [if_pos h]
    refine setT_len ?_
    unfold setOk at h
    simp only [Bool.and_eq_true, decide_eq_true_eq] at h
    omega
  · rw [if_neg h]; simp
set_option maxHeartbeats 2000000 in
theorem sets_any (p : PairL) (age : Int) (w : World) (h1 : p.1.length ≤ 400000) (h2 : p.2.length ≤ 400000) (hT : PowOk w) :
    Calls Tryd.prog 18 #[pairV p, .int .i64 age] w fun e w' => e = .returned (.bool true) ∧ Below w.heap.size w w' := by
  have B1 := hideIt (below_new w (.cells #[.string (strOf p.1), .string (strOf p.2)] 30))
  have P1 := hideIt (PCell.new w p)
  have C1 := hideIt (fun u (h : PowOk u) => cset_any p age u h1 h2 h)
  have C2 := hideIt (fun u (h : PowOk u) => rcset_any p age u h1 h2 h)
  have hR := setC_two p age
  have HP := hideIt hT
  obtain ⟨R, hRR⟩ : ∃ R, setC p age = R := ⟨_, rfl⟩
  rw [hRR] at C1 C2 hR
  obtain ⟨t, n⟩ := R
  simp only at hR C1 C2
  unfold pairV at C1 C2 ⊢
  clear hRR h1 h2 hT
  generalize strOf t = ts at *
  have q : (ts.toList == ts.toList) = true := by simp
  rcases hR with rfl | rfl
  all_goals
    go_enter Tryd.func18, Tryd.ntmps18
    go_wp2_with fail
    refine (C1.out _ (HP.out.keep B1.out)).mono ?_
    rintro e w2 ⟨rfl, hb⟩
    have B2 := hideIt (below_then B1.out hb)
    have P2 := hideIt (P1.out.keep hb P1.out.lt)
    have q0 := P2.out.cell0
    have q1 := P2.out.cell1
    clear hb B1 P1 C1
    go_wp2_with fail
    refine (C2.out _ (HP.out.keep B2.out)).mono ?_
    rintro e w3 ⟨rfl, hb⟩
    have B3 := hideIt (below_then B2.out hb)
    clear hb B2 C2 q0 q1 P2
    go_wp2_with fail
    go_ret
    exact ⟨rfl, B3.out⟩
theorem go_sets : goFn Tryd.prog 18 = true := by kernel_rfl
set_option maxHeartbeats 2000000 in
theorem reads_any (l : List UInt8) (w : World) (hl : l.length ≤ 90000) (hm : MaxOk w) (hT : PowOk w) :
    Calls Tryd.prog 19 #[.string (strOf l)] w fun e w' => e = .returned (.bool true) ∧ Below w.heap.size w w' := by
  have C1 := hideIt (cread_any l w (by omega) hm hT)
  have C2 := hideIt (fun u (h : PowOk u) => rcread_any l u hl h)
  have HP := hideIt hT
  obtain ⟨R, hRR⟩ : ∃ R, readL l = R := ⟨_, rfl⟩
  rw [hRR] at C1 C2
  obtain ⟨⟨⟨nm, vl⟩, n⟩, b⟩ := R
  unfold readV pairV at C1 C2
  simp only at C1 C2
  clear hRR hm hT hl
  generalize strOf l = ls at *
  generalize strOf nm = sn at *
  generalize strOf vl = sv at *
  have x1 : (sn.toList == sn.toList) = true := by simp
  have x2 : (sv.toList == sv.toList) = true := by simp
  go_enter Tryd.func19, Tryd.ntmps19
  go_wp2_with fail
  refine C1.out.mono ?_
  rintro e w2 ⟨rfl, hb⟩
  have B2 := hideIt (below_then hb (below_new w2 (.cells #[.string sn, .string sv] 30)))
  have k0 : (w2.alloc (.cells #[.string sn, .string sv] 30)).cell? ⟨w2.heap.size, 0, none⟩ = some (.string sn) := by rw [cell_of_row _ _ _ _ _ _ (heap_alloc_new w2 _)]; rfl
  have k1 : (w2.alloc (.cells #[.string sn, .string sv] 30)).cell? ⟨w2.heap.size, 1, none⟩ = some (.string sv) := by rw [cell_of_row _ _ _ _ _ _ (heap_alloc_new w2 _)]; rfl
  have hlt : w2.heap.size < (w2.alloc (.cells #[.string sn, .string sv] 30)).heap.size := by rw [alloc_size]; exact Nat.lt_succ_self _
  have K0 := hideIt k0
  have K1 := hideIt k1
  have HLT := hideIt hlt
  clear hb C1 k0 k1 hlt
  go_wp2_with fail
  generalize w2.alloc (.cells #[.string sn, .string sv] 30) = X at *
  generalize w2.heap.size = g2 at *
  refine (C2.out _ (HP.out.keep B2.out)).mono ?_
  rintro e w3 ⟨rfl, hb⟩
  have hb3 := below_then hb (below_new w3 (.cells #[.string sn, .string sv] 30))
  have B3 := hideIt (below_then B2.out hb3)
  have k0 := (hb3.cell (p := ⟨g2, 0, none⟩) HLT.out).trans K0.out
  have k1 := (hb3.cell (p := ⟨g2, 1, none⟩) HLT.out).trans K1.out
  clear hb hb3 C2 B2 K0 K1 HLT
  cases b
  all_goals
    go_wp2_with fail
    go_ret
    exact ⟨rfl, B3.out⟩
theorem go_reads : goFn Tryd.prog 19 = true := by kernel_rfl
set_option maxHeartbeats 2000000 in
theorem prefixes_any (l pa : List UInt8) (se dm : Bool) (w : World) (hl : l.length ≤ 140737488355328) :
    Calls Tryd.prog 20 #[.string (strOf l), .bool se, .string (strOf pa), .bool dm] w fun e w' => e = .returned (.bool true) ∧ Below w.heap.size w w' := by
  have C1 := hideIt (prefix_any l pa se dm w hl)
  have C2 := hideIt (fun u => rprefix_any l pa se dm u hl)
  generalize prefL l se pa dm = R at *
  generalize strOf l = ls at *
  generalize strOf pa = ps at *
  clear hl
  cases R
  all_goals
    go_enter Tryd.func20, Tryd.ntmps20
    go_wp2_with fail
    refine C1.out.mono ?_
    rintro e w2 ⟨rfl, hb⟩
    have B2 := hideIt hb
    clear hb C1
    go_wp2_with fail
    refine (C2.out _).mono ?_
    rintro e w3 ⟨rfl, hb⟩
    have B3 := hideIt (below_then B2.out hb)
    clear hb C2 B2
    go_wp2_with fail
    go_ret
    exact ⟨rfl, B3.out⟩
theorem go_prefixes : goFn Tryd.prog 20 = true := by kernel_rfl
/-! names -/
def nmL : List (List UInt8) := [[95, 95, 72, 111, 115, 116, 45, 105, 100], [95, 95, 104, 111, 115, 116, 45, 65], [95, 95, 83, 101, 99, 117, 114, 101, 45, 120], [95, 95, 83, 69, 67, 85, 82, 69, 45], [97], [95, 95, 72, 111, 115, 116], [], [98, 32, 99]]
def nmQ (q : Nat) : List UInt8 := nmL.getD q []
def nmV : Array Value := (nmL.map fun p => Value.string (strOf p)).toArray
theorem nm_at (q : Nat) (h : q < 8) : nmV[q]? = some (.string (strOf (nmQ q))) := by
  have : ∀ q : Fin 8, nmL[q.val]? = some (nmQ q.val) := by decide
  have t : nmL[q]? = some (nmQ q) := this ⟨q, h⟩
  rw [nmV, List.getElem?_toArray, List.getElem?_map, t]
  rfl
theorem nm_len (q : Nat) (h : q < 8) : (nmQ q).length ≤ 10 := by
  have : ∀ q : Fin 8, (nmQ q.val).length ≤ 10 := by decide
  exact this ⟨q, h⟩
theorem run_rem8q (x p : Nat) (hx : x < 256) (hp : x % 8 = p) (w : World) : (binOp .rem 5 (.int .u8 (x : Int)) (.int .u8 8)).run Tryd.prog w = .ok (.int .u8 (p : Int)) w := by
  subst hp
  have h1 : Int.tmod (x : Int) 8 = ((x % 8 : Nat) : Int) := by rw [Int.tmod_eq_emod_of_nonneg (by omega)]; omega
  have h2 : IntKind.u8.wrap ((x % 8 : Nat) : Int) = ((x % 8 : Nat) : Int) := by rw [IntKind.wrap_u8']; omega
  generalize x % 8 = y at *
  go_simp
section
variable {ops : Array Oper} {Q : Exit → Act → World → Prop} {o : Oper} {a : Act} {w : World}
theorem ok_indexS8 (hg : Region.wanted o (yielded ops a.tmps) = true) (x y : Operand) (ho : o.op = .indexAddr 22 x y) (b off n c j : Nat) (h1 : a.eval x = .slice (some ⟨b, off, none⟩) n c) (h2 : a.eval y = .int .u8 (j : Int)) (hj : j < n) : StepOk Tryd.prog ops Q (Fact.is (.pointer (some ⟨b, off + j, none⟩))) o a w := by
  have hj' : (j : Int) < (n : Int) := by omega
  refine ok_same hg _ ?_ rfl
  simp only [execOp, ho, h1, h2]
  go_simp
end
end Go.Proofs.YtjfmlfakdijfjaaDoor
