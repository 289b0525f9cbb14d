/- What the laws on disks share: facts for their last regions. -/
import Derived.Test.YthpbhfepiekchaaDiskKnown
import Derived.Test.YthpbhfepiekchaaDiskRename
namespace Go.Proofs.Ythpbhfepiekchaa
open Go.ChangeShapes Go.WideShapes Go.ChangeAt Go.RowKit
set_option linter.unusedVariables false
set_option linter.unusedSimpArgs false

theorem run_leD (x y : Int) (b : Bool) (h : decide (x ≤ y) = b) (w : World) : (binOp .leq 3 (.int .i64 x) (.int .i64 y)).run Try.prog w = .ok (.bool b) w := by
  subst h; go_simp
theorem last_piece {D : DiskP} {s R : List UInt8} {w : World} {e : Ending} {w' : World} (h : LastPost D s w e w') (hR : lastL D s = R) (hl : R.length ≤ 140737488355328) : ∃ v, e = .returned v ∧ (Fact.piece R).p v w' ∧ Grew w w' := by
  obtain ⟨v, e1, hv, hb⟩ := h
  rw [hR] at hv
  obtain ⟨A, c, rfl, hlen, hp⟩ := own_pieceAny hv hl
  exact ⟨_, e1, ⟨A, c, rfl, hp⟩, hb⟩
theorem go_lasting : goFn Try.prog 16 = true := by kernel_rfl
theorem go_dead : goFn Try.prog 17 = true := by kernel_rfl
/-- make([]byte, n) -/
theorem make_bytes (w : World) (n : Nat) (hn : n ≤ 100000) : ∃ w', (Instr.makeSlice 22 (.int .i64 (n : Int)) (.int .i64 (n : Int))).run Try.prog w = .ok (.slice (some ⟨w.heap.size, 0, none⟩) n n) w' ∧ PieceOk w' ⟨some ⟨w.heap.size, 0, none⟩, n, List.replicate n 0⟩ ∧ Below w.heap.size w w' := by
  obtain ⟨i0, hi, hz0, hz1, hz2⟩ := info_parts info_u8
  obtain ⟨w', hr, hown, hgr⟩ := run_makeSlice_full (P := Try.prog) w w.heap.size 22 5 i0 (.int .u8 0) 1 Try.underlying22 hi hz0 hz1 .i64 .i64 n (by omega) (by rw [hz2]; omega) (by unfold maxLen; omega) (Nat.le_refl _)
  rw [show (Value.int .u8 0).cells = #[Value.int .u8 0] from rfl, toList_madeCells_one, Nat.mul_one] at hown
  have e : List.replicate n (Value.int .u8 0) = cellsOf (List.replicate n 0) := by simp [cellsOf]
  rw [e] at hown
  exact ⟨w', hr, ⟨own_bytes hown, by simp, by simp only; omega, by simp; omega, by simp⟩, below_made hgr⟩
def yS : List UInt8 := [121]
theorem takes_nil (s : ByteArray) (n : Int) (w : World) : Calls Try.prog 29 #[.pointer none, .string s, .int .i64 n] w fun e w' => e = .returned (.bool false) ∧ Below w.heap.size w w' := by
  go_enter Try.func29, Try.ntmps29
  go_wp2
  go_region
  go_wp2
  go_ret
  exact ⟨rfl, (Below.refl _ _).drew⟩
theorem append_nil (s : ByteArray) (A : Option Addr) (n c : Nat) (w : World) : Calls Try.prog 11 #[.pointer none, .string s, .slice A n c] w fun e w' => e = .returned (.bool false) ∧ Below w.heap.size w w' := by
  have H := hideIt (takes_nil s (n : Int) w)
  go_enter Try.func11, Try.ntmps11
  go_wp2_with fail
  refine H.out.mono ?_
  rintro e w2 ⟨rfl, hb⟩
  have HB := hideIt hb
  clear hb
  go_wp2_with fail
  go_ret
  exact ⟨rfl, HB.out⟩
theorem go_appendD : goFn Try.prog 11 = true := by kernel_rfl
theorem go_syncD : goFn Try.prog 12 = true := by kernel_rfl
theorem go_dropD : goFn Try.prog 25 = true := by kernel_rfl
theorem go_renameD : goFn Try.prog 27 = true := by kernel_rfl
theorem go_usedD : goFn Try.prog 28 = true := by kernel_rfl
theorem go_namesD : goFn Try.prog 26 = true := by kernel_rfl
/-- a row of n texts -/
def Fact.lenT (n : Nat) : Fact := ⟨fun v _ => ∃ A c, v = .slice A n c, fun _ _ _ h _ => h⟩
theorem ok_lenTx {ops : Array Oper} {Q : Exit → Act → World → Prop} {o : Oper} {a : Act} {w : World} (hg : Region.wanted o (yielded ops a.tmps) = true) (x : Operand) (ho : o.op = .call { callee := .builtin .len, args := #[x], argTypes := #[51] }) (n : Nat) (h : (Fact.lenT n).p (a.eval x) w) : StepOk Try.prog ops Q (Fact.is (.int .i64 (n : Int))) o a w := by
  obtain ⟨A, c, hx⟩ := h
  exact ok_same hg _ (by
    have hr : (Builtin.len_ #[51] o.type #[.slice A n c]).run Try.prog w = .ok (.int .i64 (n : Int)) w := by simp [Builtin.len_, run_underlying Try.underlying51]; rfl
    simp [execOp, ho, resolve, invoke, builtin, hx, hr]) rfl
theorem names_len {D : DiskP} {w : World} {e : Ending} {w' : World} (h : NamesPost D w e w') (n : Nat) (hn : D.files.length = n) : ∃ v, e = .returned v ∧ (Fact.lenT n).p v w' ∧ Grew w w' := by
  obtain ⟨v, e1, hv, hb⟩ := h
  obtain ⟨A, c, rfl, _⟩ := hv.open
  have hl : (namesP D).length = n := by rw [← hn]; simp [namesP]
  exact ⟨_, e1, ⟨A, c, by rw [hl]⟩, hb⟩
/-- "f" and a letter -/
def nmI (i : Nat) : List UInt8 := [102, UInt8.ofNat (97 + i)]
theorem nm_cat (i : Nat) (h : i < 100) : (⟨#[102]⟩ : ByteArray) ++ oneB ((97 : Int) + (i : Int)) = strOf (nmI i) := by
  have e : ((97 : Int) + (i : Int)).toNat = 97 + i := by omega
  simp only [oneB, e, nmI, strOf]
  rfl
end Go.Proofs.Ythpbhfepiekchaa
