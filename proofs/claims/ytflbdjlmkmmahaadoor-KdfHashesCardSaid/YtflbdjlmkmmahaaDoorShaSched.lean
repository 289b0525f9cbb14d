/- The contract of sha.schedule. -/
import Derived.Test.YtflbdjlmkmmahaaDoorShaArr
import Derived.StillTailTactics
namespace Go.Proofs.YtflbdjlmkmmahaaDoor
open Go.ChangeShapes Go.WideShapes Go.ChangeAt Go.RowKit
set_option linter.unusedVariables false

theorem get_is {A : Option Addr} {bs : List UInt8} {m c B g : Nat} (w : World) (hb : BytesAt w B A bs) (hm : bs.length = m) (hl : bs.length ≤ c) (h60 : bs.length ≤ 80) (hg : getN (last8 bs) = g) :
    Calls Tryd.prog 43 #[.slice A m c] w fun e w' => e = .returned (.int .u64 (g : Nat)) ∧ w = w' := by
  subst hg hm
  exact get_any A bs c B w hb hl (by omega)
theorem bytes_part {w : World} {B b off : Nat} {bs : List UInt8} (h : BytesAt w B (some ⟨b, off, none⟩) bs) (i n : Nat) : BytesAt w B (some ⟨b, off + i, none⟩) ((bs.drop i).take n) := fun hn => by
  have hl : ((bs.drop i).take n).length ≤ bs.length - i := by simp; omega
  obtain ⟨b', off', e, hB, hc⟩ := h (by omega)
  cases e
  refine ⟨b, off + i, rfl, hB, fun j hj => ?_⟩
  rw [Nat.add_assoc, hc (i + j) (by omega)]
  simp

theorem wrap_is {x y : Int} (h1 : -9223372036854775808 ≤ x) (h2 : x ≤ 9223372036854775807) (h : x = y) : IntKind.i64.wrap x = y := by
  subst h
  simp [IntKind.wrap, IntKind.bits, IntKind.signed]; omega
theorem wpStill_load8 {ops : Array Oper} {rest : List Oper} {o : Oper} {a : Act} {w : World} {Q : Act → Prop} (hgd : o.guard = none) (x : Operand) (ho : o.op = .load 47 x)
    (g : Nat) (ty : TypeId) (l : List Nat) (hx : a.eval x = .pointer (some ⟨g, 0, none⟩)) (hA : Arr w g ty l) (hl : l.length = 8)
    (h : wpStill Tryd.prog ops w Q rest (a.put o.dst (wordsV l))) : wpStill Tryd.prog ops w Q (o :: rest) a := by
  refine wpStill_step fun K hK => ?_
  have hw : Region.wanted o (yielded ops a.tmps) = true := by simp [Region.wanted, hgd]
  have hr := run_loadVar_row (P := Tryd.prog) w g ty 47 (wordsC l) (0, 0) _ hA Tryd.underlying47 rfl (by rw [wordsC_size, hl]; exact info_words8)
  rw [if_pos hw]
  unfold Oper.still execOp
  simp only [ho, hx, Instr.loadAt, Instr.sureAddr, Sem.run_bind, Sem.run_pure, Result.andThen_ok, hr]
  exact ⟨rfl, hK _ h⟩
theorem still_of {P : Program} {f : FuncId} {args : Array Value} {w : World} {v : Value} (h : Calls P f args w fun e w' => e = .returned v ∧ w = w') : Calls P f args w fun e w'' => e = .returned v ∧ w'' = w :=
  h.mono fun _ _ ⟨a, b⟩ => ⟨a, b.symm⟩
theorem schedL_next (b : List UInt8) (t : Nat) (h : t < 64) : (schedL b t)[t]? = some 0 := by
  have h0 : 0 < 64 - t := by omega
  rw [schedL, List.getElem?_append_right (by simp)]
  simp [h0]
set_option maxHeartbeats 1000000 in
theorem sched_any (A : Option Addr) (bs : List UInt8) (c B : Nat) (w : World) (hb : BytesAt w B A bs) (hB : B ≤ w.heap.size) (hlen : bs.length = 64) (hl : 64 ≤ c) (hc : c ≤ 9223372036854775807) :
    Calls Tryd.prog 41 #[.slice A 64 c] w fun e w' => e = .returned (wordsV (schedL bs 64)) ∧ Below w.heap.size w w' := by
  obtain ⟨b, off, rfl, hB', hcell⟩ := hb (by omega)
  go_enter Tryd.func41, Tryd.ntmps41
  go_wp2_with fail
  go_loopw [6] (fun i wr => ∃ t : Nat, t ≤ 16 ∧ i = .int .i64 t ∧ Arr wr (w.heap.size + 1) 61 (schedL bs t) ∧ Arr wr w.heap.size 61 (List.replicate 64 0) ∧ Below w.heap.size w wr) (fun i _ => 16 - (intOf i).toNat)
  case atStart =>
    have h1 : Arr (w.alloc (.cells (wordsC (List.replicate 64 0)) 61)) w.heap.size 61 (List.replicate 64 0) := Arr.made _ _ _
    have h2 := Arr.made (w.alloc (.cells (wordsC (List.replicate 64 0)) 61)) 61 (List.replicate 64 0)
    rw [alloc_size] at h2
    exact ⟨0, by omega, rfl, h2, h1.alloc _, below_one (below_one (Below.refl _ _) _) _⟩
  case round =>
    obtain ⟨t, ht, rfl, hA, hR, hbel⟩ := hrel
    by_cases hlt : t < 16
    · have HA := hideIt hA
      have HR := hideIt hR
      have HB := hideIt hbel
      have HC := hideIt hcell
      have hck : wr.cell? ⟨w.heap.size + 1, t, none⟩ = some (.int .u32 (0 : Nat)) := hA.cellIs (schedL_next bs t (by omega))
      have hf := hA.frozen t
      have h4 : (t + 1) * 4 - t * 4 = 4 := by omega
      have HX : Hid (getN (last8 ((bs.drop (t * 4)).take 4)) = wAt bs t) := hideIt (by
        rw [wAt_lo bs t hlt, last8_short (by rw [List.length_take]; omega), Nat.mul_comm])
      have hx := wAt_lt bs t
      have HS : Hid (Arr (wr.setCell ⟨w.heap.size + 1, t, none⟩ (.int .u32 (wAt bs t : Nat))) (w.heap.size + 1) 61 (schedL bs (t + 1))) := hideIt (schedL_set bs t (by omega) ▸ hA.set t (wAt bs t))
      have HR2 : Hid (Arr (wr.setCell ⟨w.heap.size + 1, t, none⟩ (.int .u32 (wAt bs t : Nat))) w.heap.size 61 (List.replicate 64 0)) := hideIt (hR.other _ _ (by simp))
      have HB2 : Hid (Below w.heap.size w (wr.setCell ⟨w.heap.size + 1, t, none⟩ (.int .u32 (wAt bs t : Nat)))) := hideIt (hbel.setCell (by simp) _)
      have HP : Hid (BytesAt wr B (some ⟨b, off + t * 4, none⟩) ((bs.drop (t * 4)).take 4)) := hideIt (bytes_part (hb.keep fun p hp => hbel.cell (by omega)) (t * 4) 4)
      have HL : Hid (((bs.drop (t * 4)).take 4).length = 4) := hideIt (by simp; omega)
      generalize wAt bs t = x at *
      clear hA hR hbel hcell hb
      go_wp2_with fail
      rw [h4]
      refine (get_is wr HP.out HL.out (by rw [HL.out]; omega) (by rw [HL.out]; omega) HX.out).mono ?_
      rintro e w' ⟨rfl, rfl⟩
      go_wp2_with fail
      go_roundw
      case rel => exact ⟨t + 1, by omega, by go_num, HS.out, HR2.out, HB2.out⟩
      case measure => simp [intOf]; omega
    · have E16 : Hid (t = 16) := hideIt (by omega)
      go_wp2_with fail
      go_loopw [5] (fun i wr => ∃ t : Nat, 16 ≤ t ∧ t ≤ 64 ∧ i = .int .i64 t ∧ Arr wr (w.heap.size + 1) 61 (schedL bs t) ∧ Arr wr w.heap.size 61 (List.replicate 64 0) ∧ Below w.heap.size w wr) (fun i _ => 64 - (intOf i).toNat)
      case atStart => exact ⟨16, by omega, by omega, rfl, E16.out ▸ hA, hR, hbel⟩
      case round =>
        clear hA hR hbel
        obtain ⟨t, ht1, ht, rfl, hA, hR, hbel⟩ := hrel
        by_cases hlt : t < 64
        · obtain ⟨n, rfl⟩ : ∃ n, t = n + 16 := ⟨t - 16, by omega⟩
          have c2 : wr.cell? ⟨w.heap.size + 1, n + 14, none⟩ = some (.int .u32 (wAt bs (n + 14) : Nat)) := hA.cellIs (schedL_at bs _ _ (by omega))
          have c7 : wr.cell? ⟨w.heap.size + 1, n + 9, none⟩ = some (.int .u32 (wAt bs (n + 9) : Nat)) := hA.cellIs (schedL_at bs _ _ (by omega))
          have c15 : wr.cell? ⟨w.heap.size + 1, n + 1, none⟩ = some (.int .u32 (wAt bs (n + 1) : Nat)) := hA.cellIs (schedL_at bs _ _ (by omega))
          have c16 : wr.cell? ⟨w.heap.size + 1, n, none⟩ = some (.int .u32 (wAt bs n : Nat)) := hA.cellIs (schedL_at bs _ _ (by omega))
          have hck : wr.cell? ⟨w.heap.size + 1, n + 16, none⟩ = some (.int .u32 (0 : Nat)) := hA.cellIs (schedL_next bs _ (by omega))
          have hf := hA.frozen (n + 16)
          have HX : IntKind.u32.wrap (IntKind.u32.wrap (IntKind.u32.wrap ((sp1 (wAt bs (n + 14)) : Nat) + (wAt bs (n + 9) : Nat)) + (sp0 (wAt bs (n + 1)) : Nat)) + (wAt bs n : Nat)) = ((wAt bs (n + 16) : Nat) : Int) := by
            rw [wAt_hi bs (n + 16) ht1]
            simp only [IntKind.wrap_u32, show n + 16 - 2 = n + 14 by omega, show n + 16 - 7 = n + 9 by omega, show n + 16 - 15 = n + 1 by omega, show n + 16 - 16 = n by omega]
            omega
          have l2 := wAt_lt bs (n + 14)
          have l15 := wAt_lt bs (n + 1)
          have HS : Hid (Arr (wr.drew.setCell ⟨w.heap.size + 1, n + 16, none⟩ (.int .u32 (wAt bs (n + 16) : Nat))) (w.heap.size + 1) 61 (schedL bs (n + 16 + 1))) := hideIt (schedL_set bs (n + 16) (by omega) ▸ hA.drew.set (n + 16) (wAt bs (n + 16)))
          have HR2 : Hid (Arr (wr.drew.setCell ⟨w.heap.size + 1, n + 16, none⟩ (.int .u32 (wAt bs (n + 16) : Nat))) w.heap.size 61 (List.replicate 64 0)) := hideIt (hR.drew.other _ _ (by simp))
          have HB2 : Hid (Below w.heap.size w (wr.drew.setCell ⟨w.heap.size + 1, n + 16, none⟩ (.int .u32 (wAt bs (n + 16) : Nat)))) := hideIt (hbel.drew.setCell (by simp) _)
          clear hA hR hbel hcell hb
          generalize wAt bs (n + 16) = x at *
          generalize wAt bs (n + 14) = x2 at *
          generalize wAt bs (n + 9) = x7 at *
          generalize wAt bs (n + 1) = x15 at *
          generalize wAt bs n = x16 at *
          generalize e2 : n + 14 = n2 at *
          generalize e7 : n + 9 = n7 at *
          generalize e15 : n + 1 = n15 at *
          generalize et : n + 16 = t at *
          have b2 : (n2 : Int) < 64 := by omega
          have b7 : (n7 : Int) < 64 := by omega
          have b15 : (n15 : Int) < 64 := by omega
          have b16 : (n : Int) < 64 := by omega
          have q2 : IntKind.i64.wrap ((t : Int) - 2) = (n2 : Int) := wrap_is (by omega) (by omega) (by omega)
          have q7 : IntKind.i64.wrap ((t : Int) - 7) = (n7 : Int) := wrap_is (by omega) (by omega) (by omega)
          have q15 : IntKind.i64.wrap ((t : Int) - 15) = (n15 : Int) := wrap_is (by omega) (by omega) (by omega)
          have q16 : IntKind.i64.wrap ((t : Int) - 16) = (n : Int) := wrap_is (by omega) (by omega) (by omega)
          have bt : (t : Int) < 64 := by omega
          clear e2 e7 e15 et
          go_wp2_with fail
          go_still_tail 23, (by kernel_rfl)
          still_call (still_of (sp1_any x2 _ l2))
          repeat still_step
          still_call (still_of (sp0_any x15 _ l15))
          repeat still_step
          refine wpStill_nil ?_
          change wpList _ _ _ _ _ wr.drew
          go_wp2_with fail
          go_roundw
          case rel => exact ⟨t + 1, by omega, by omega, by go_num, HS.out, HR2.out, HB2.out⟩
          case measure => simp [intOf]; omega
        · obtain rfl : t = 64 := by omega
          have hS : Hid (Arr (wr.setRow w.heap.size (wordsC (schedL bs 64))) w.heap.size 61 (schedL bs 64)) := hideIt (hR.row _)
          go_wp2_with (first
            | (refine wpList_load64 rfl (.tmp 3) rfl (w.heap.size + 1) 61 (schedL bs 64) rfl hA (schedL_length bs 64 (by omega)) ?_)
            | (refine wpList_store64 rfl (.tmp 2) (.tmp 48) rfl w.heap.size 61 (List.replicate 64 0) (schedL bs 64) rfl rfl hR rfl (schedL_length bs 64 (by omega)) ?_))
          refine bodyPost_ret (v := wordsV (schedL bs 64)) ?_ rfl ⟨rfl, below_setRow hbel (Nat.le_refl _) _⟩
          exact results_cell_row Tryd.results41 _ _ w.heap.size 61 (wordsC (schedL bs 64)) (0, 0) _ rfl hS.out Tryd.underlying61 rfl (by rw [wordsC_size, schedL_length bs 64 (by omega)]; exact info_words64)
end Go.Proofs.YtflbdjlmkmmahaaDoor
