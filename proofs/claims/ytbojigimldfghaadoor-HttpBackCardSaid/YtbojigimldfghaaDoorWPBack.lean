/- The walk of HttpBack. -/
import Derived.Test.YtbojigimldfghaaDoorHttpBk
import Derived.Test.YtbojigimldfghaaDoorHttpFacts
import Derived.Test.YtbojigimldfghaaDoorHttpPrint
import Derived.Test.YtbojigimldfghaaDoorHttpDigits
import Derived.Test.YtbojigimldfghaaDoorHttpKnown
import Derived.Test.YtbojigimldfghaaDoorHttpLaid
import Derived.Test.YtbojigimldfghaaDoorPairOne
import Derived.Deep.Cut
namespace Go.Proofs.YtbojigimldfghaaDoor
open Go.ChangeShapes Go.WideShapes Go.ChangeAt Go.RowKit
set_option linter.unusedVariables false
set_option linter.unusedSimpArgs false

theorem QCell.set0 {w : World} {g : Nat} {m p fv bv : Value} (h : QCell w g m p fv bv) (m' : Value) : QCell (w.setCell ⟨g, 0, none⟩ m') g m' p fv bv := by
  have hlt := h.lt
  unfold QCell at h ⊢
  have h' : w.heap[g] = .cells #[m, p, fv, bv] 33 (0, 0) := (Array.getElem?_eq_some_iff.1 h).2
  rw [Array.getElem?_eq_some_iff]
  refine ⟨by simpa [World.setCell] using hlt, ?_⟩
  simp only [World.setCell]
  rw [Array.getElem_modify, if_pos rfl, h']
  rfl
theorem QCell.set1 {w : World} {g : Nat} {m p fv bv : Value} (h : QCell w g m p fv bv) (p' : Value) : QCell (w.setCell ⟨g, 1, none⟩ p') g m p' fv bv := by
  have hlt := h.lt
  unfold QCell at h ⊢
  have h' : w.heap[g] = .cells #[m, p, fv, bv] 33 (0, 0) := (Array.getElem?_eq_some_iff.1 h).2
  rw [Array.getElem?_eq_some_iff]
  refine ⟨by simpa [World.setCell] using hlt, ?_⟩
  simp only [World.setCell]
  rw [Array.getElem_modify, if_pos rfl, h']
  rfl
theorem POwn.notQ {base : Nat} {v : Value} {ps : List PairL} {w : World} {g : Nat} {m p fv bv : Value} (h : POwn base v ps w) (hq : QCell w g m p fv bv) : ∀ k, v.ownBlock = some k → g ≠ k := by
  intro k hk e
  rcases h.2 with ⟨rfl, _⟩ | ⟨g1, cap1, cur1, rfl, _, k1, _⟩
  · cases hk
  · cases hk
    subst e
    unfold QCell at hq
    rw [k1] at hq
    simp at hq
theorem POwn.setQ {base : Nat} {v : Value} {ps : List PairL} {w : World} {g : Nat} {m p fv bv : Value} (h : POwn base v ps w) (hq : QCell w g m p fv bv) (i : Nat) (u : Value) : POwn base v ps (w.setCell ⟨g, i, none⟩ u) := h.block fun k hk => by
  have hne := h.notQ hq k hk
  simp only [World.setCell]
  rw [Array.getElem?_modify, if_neg hne]
/-- a request that is built in a cell -/
structure BkSt (g : Nat) (m p : List UInt8) (fs : List PairL) (bv : Value) (w wr : World) : Prop where
  ge : w.heap.size ≤ g
  row : ∃ fv, QCell wr g (.string (strOf m)) (.string (strOf p)) fv bv ∧ POwn w.heap.size fv fs wr
  below : Below w.heap.size w wr
theorem BkSt.keep {g : Nat} {m p : List UInt8} {fs : List PairL} {bv : Value} {w wr w' : World} (h : BkSt g m p fs bv w wr) (hg : Below wr.heap.size wr w') : BkSt g m p fs bv w w' := by
  obtain ⟨fv, hq, ho⟩ := h.row
  exact ⟨h.ge, ⟨fv, hq.keep hg hq.lt, ho.keep hg⟩, below_then h.below hg⟩
theorem BkSt.meth {g : Nat} {m p : List UInt8} {fs : List PairL} {bv : Value} {w wr : World} (h : BkSt g m p fs bv w wr) (m' : List UInt8) : BkSt g m' p fs bv w (wr.setCell ⟨g, 0, none⟩ (.string (strOf m'))) := by
  obtain ⟨fv, hq, ho⟩ := h.row
  exact ⟨h.ge, ⟨fv, hq.set0 _, ho.setQ hq 0 _⟩, h.below.setCell (by exact h.ge) _⟩
theorem BkSt.path {g : Nat} {m p : List UInt8} {fs : List PairL} {bv : Value} {w wr : World} (h : BkSt g m p fs bv w wr) (p' : List UInt8) : BkSt g m p' fs bv w (wr.setCell ⟨g, 1, none⟩ (.string (strOf p'))) := by
  obtain ⟨fv, hq, ho⟩ := h.row
  exact ⟨h.ge, ⟨fv, hq.set1 _, ho.setQ hq 1 _⟩, h.below.setCell (by exact h.ge) _⟩
theorem bk_cell {B g : Nat} {m p fv bv : Value} {fs : List PairL} {wr w' : World} (hq : QCell wr g m p fv bv) (ho : POwn B fv fs wr) (hg : wr.grownBy w' fv.ownBlock) : QCell w' g m p fv bv :=
  (hg.block g hq.lt fun e => ho.notQ hq g e.symm rfl).trans hq
theorem bk_flds {g : Nat} {m p : List UInt8} {fs fs' : List PairL} {fv fv' bv : Value} {w wr w' : World} (hge : w.heap.size ≤ g) (hb : Below w.heap.size w wr) (hq : QCell wr g (.string (strOf m)) (.string (strOf p)) fv bv) (ho : POwn w.heap.size fv fs wr) (ho' : POwn w.heap.size fv' fs' w') (hg : wr.grownBy w' fv.ownBlock) : BkSt g m p fs' bv w (w'.setCell ⟨g, 2, none⟩ fv') := by
  have hq' := bk_cell hq ho hg
  exact ⟨hge, ⟨fv', hq'.set2 _, ho'.setQ hq' 2 _⟩, (hb.grown hg hb.size (fun k hk => (ho.lt k hk).1)).setCell (by exact hge) _⟩
def hostC : Obj := .cells #[.string ⟨#[72, 111, 115, 116]⟩, .string ⟨#[97]⟩] 40
theorem bk_start (w : World) (bv : Value) : BkSt (w.heap.size + 1) [71, 69, 84] [47] [(hostL, [97])] bv w ((w.alloc (.cells #[.string ⟨#[72, 111, 115, 116]⟩, .string ⟨#[97]⟩] 40)).alloc (.cells #[.string ⟨#[71, 69, 84]⟩, .string ⟨#[47]⟩, .slice (some ⟨w.heap.size, 0, none⟩) 1 1, bv] 33)) := by
  have hs : (w.alloc (.cells #[.string ⟨#[72, 111, 115, 116]⟩, .string ⟨#[97]⟩] 40)).heap.size = w.heap.size + 1 := alloc_size w _
  refine ⟨Nat.le_succ _, ⟨.slice (some ⟨w.heap.size, 0, none⟩) 1 1, ?_, ?_⟩, ?_⟩
  · have := QCell.new (w.alloc (.cells #[.string ⟨#[72, 111, 115, 116]⟩, .string ⟨#[97]⟩] 40)) (.string ⟨#[71, 69, 84]⟩) (.string ⟨#[47]⟩) (.slice (some ⟨w.heap.size, 0, none⟩) 1 1) bv
    rw [hs] at this
    exact this
  · have h1 : POwn w.heap.size (.slice (some ⟨w.heap.size, 0, none⟩) 1 1) [(hostL, [97])] (w.alloc (.cells #[.string ⟨#[72, 111, 115, 116]⟩, .string ⟨#[97]⟩] 40)) :=
      ⟨rfl, Or.inr ⟨w.heap.size, 1, _, rfl, Nat.le_refl _, heap_alloc_new w _, Nat.le_refl _, by decide, rfl, rfl⟩⟩
    exact h1.keep (below_new _ _)
  · exact below_then (below_new w _) (below_new _ _)
theorem bytes_one (w : World) (B : Nat) (hB : w.heap.size < B) : BytesAt (w.alloc (.cells #[.int .u8 0] 5)) B (some ⟨w.heap.size, 0, none⟩) [0] := fun _ =>
  ⟨w.heap.size, 0, rfl, hB, fun j hj => by
    obtain rfl : j = 0 := by simp at hj; omega
    rw [cell_of_row _ _ _ _ _ _ (heap_alloc_new w _)]; rfl⟩
theorem piece_own {w w' : World} {gm c : Nat} {bs : List UInt8} {row : Option Nat} (h : PieceOk w ⟨some ⟨gm, 0, none⟩, c, bs⟩) (hg : w.grownBy w' row) (hne : ∀ k, row = some k → k ≠ gm) : PieceOk w' ⟨some ⟨gm, 0, none⟩, c, bs⟩ :=
  ⟨fun hn => by
    obtain ⟨b, off, e, hb, hc⟩ := h.bytes hn
    obtain ⟨rfl, rfl⟩ : gm = b ∧ 0 = off := by cases e; exact ⟨rfl, rfl⟩
    exact ⟨gm, 0, rfl, Nat.lt_of_lt_of_le hb hg.size, fun j hj => (World.cell?_of_block (hg.block gm hb (fun e => hne gm e.symm rfl))).trans (hc j hj)⟩, h.fits, h.most, h.long, h.nil⟩
theorem piece_take {w : World} {A : Option Addr} {c : Nat} {bs : List UInt8} (h : PieceOk w ⟨A, c, bs⟩) (k : Nat) (hk : k ≤ bs.length) : PieceOk w ⟨A, c, bs.take k⟩ := by
  have hl : (bs.take k).length = k := by rw [List.length_take]; omega
  have h1 := h.fits
  have h2 := h.long
  simp only at h1 h2
  refine ⟨fun hn => ?_, by simp only [hl]; omega, h.most, by simp only [hl]; omega, h.nil⟩
  obtain ⟨b, off, e, hb, hc⟩ := h.bytes (by simp only [hl] at hn ⊢; omega)
  refine ⟨b, off, e, hb, fun j hj => ?_⟩
  simp only [hl] at hj
  rw [hc j (by simp only; omega)]
  simp
theorem run_rem94 (x p : Nat) (hx : x < 256) (hp : x % 94 = p) (w : World) : (binOp .rem 5 (.int .u8 (x : Int)) (.int .u8 94)).run Tryd.prog w = .ok (.int .u8 (p : Int)) w := by
  subst hp
  have h1 : Int.tmod (x : Int) 94 = ((x % 94 : Nat) : Int) := by rw [Int.tmod_eq_emod_of_nonneg (by omega)]; omega
  have h2 : IntKind.u8.wrap ((x % 94 : Nat) : Int) = ((x % 94 : Nat) : Int) := by rw [IntKind.wrap_u8]; omega
  generalize x % 94 = y at *
  go_simp
theorem run_rem26b (x p : Nat) (hx : x < 256) (hp : x % 26 = p) (w : World) : (binOp .rem 5 (.int .u8 (x : Int)) (.int .u8 26)).run Tryd.prog w = .ok (.int .u8 (p : Int)) w := by
  subst hp
  have h1 : Int.tmod (x : Int) 26 = ((x % 26 : Nat) : Int) := by rw [Int.tmod_eq_emod_of_nonneg (by omega)]; omega
  have h2 : IntKind.u8.wrap ((x % 26 : Nat) : Int) = ((x % 26 : Nat) : Int) := by rw [IntKind.wrap_u8]; omega
  generalize x % 26 = y at *
  go_simp
theorem run_add33 (p : Nat) (c : UInt8) (hp : p < 100) (hc : c.toNat = 33 + p) (w : World) : (binOp .add 5 (.int .u8 33) (.int .u8 (p : Int))).run Tryd.prog w = .ok (.int .u8 ((c.toNat : Nat) : Int)) w := by
  rw [hc]
  have h2 : IntKind.u8.wrap (33 + (p : Int)) = 33 + (p : Int) := by rw [IntKind.wrap_u8]; omega
  go_simp
theorem run_add97b (p : Nat) (c : UInt8) (hp : p < 100) (hc : c.toNat = 97 + p) (w : World) : (binOp .add 5 (.int .u8 97) (.int .u8 (p : Int))).run Tryd.prog w = .ok (.int .u8 ((c.toNat : Nat) : Int)) w := by
  rw [hc]
  have h2 : IntKind.u8.wrap (97 + (p : Int)) = 97 + (p : Int) := by rw [IntKind.wrap_u8]; omega
  go_simp
section
variable {ops : Array Oper} {Q : Exit → Act → World → Prop} {o : Oper} {a : Act} {w : World}
theorem ok_fieldQ1 (hg : Region.wanted o (yielded ops a.tmps) = true) (x : Operand) (ho : o.op = .fieldAddr 33 x 1) (b off : Nat) (h1 : a.eval x = .pointer (some ⟨b, off, none⟩)) : StepOk Tryd.prog ops Q (Fact.is (.pointer (some ⟨b, off + 1, none⟩))) o a w := by
  refine ok_same hg _ ?_ rfl
  simp only [execOp, ho, h1]
  go_simp
theorem ok_fieldQ2b (hg : Region.wanted o (yielded ops a.tmps) = true) (x : Operand) (ho : o.op = .fieldAddr 33 x 2) (b off : Nat) (h1 : a.eval x = .pointer (some ⟨b, off, none⟩)) : StepOk Tryd.prog ops Q (Fact.is (.pointer (some ⟨b, off + 2, none⟩))) o a w := by
  refine ok_same hg _ ?_ rfl
  simp only [execOp, ho, h1]
  go_simp
theorem ok_loadFv (hg : Region.wanted o (yielded ops a.tmps) = true) (x : Operand) (ho : o.op = .load 31 x) (p : Addr) (v : Value) (h1 : a.eval x = .pointer (some p)) (hc : w.cell? p = some v) : StepOk Tryd.prog ops Q (Fact.is v) o a w := by
  refine ok_same hg _ ?_ rfl
  simp only [execOp, ho, h1]
  go_simp
end
set_option maxRecDepth 8000 in
set_option maxHeartbeats 4000000 in
theorem httpBack_walk (a0 : Option Addr) (len0 cap0 : Nat) (z0 : List Int) (a1 : Option Addr) (len1 cap1 : Nat) (z1 : List Int) (a2 : Option Addr) (len2 cap2 : Nat) (z2 : List Int) (a3 : Bool) (w : World) (w0 : IsRow .u8 w a0 len0 cap0 z0) (w1 : IsRow .u8 w a1 len1 cap1 z1) (w2 : IsRow .u8 w a2 len2 cap2 z2) (hT : Tabs w) (r0 : cap0 ≤ 140737488355328) (r1 : cap1 ≤ 140737488355328) (r2 : cap2 ≤ 140737488355328) :
    Calls Tryd.prog 5 #[.slice a0 len0 cap0, .slice a1 len1 cap1, .slice a2 len2 cap2, .bool a3] w fun e w' => e = .returned (.bool true) ∧ Below w.heap.size w w' := by
  have hm : MaxOk w := hT
  have HM := hideIt hm
  have HK := hideIt (fun w' (hb : Below w.heap.size w w') => known9_any w' (hm.keep hb))
  obtain ⟨_, _, hlc0, _⟩ := w0.bytes
  obtain ⟨_, _, hlc1, _⟩ := w1.bytes
  obtain ⟨_, _, hlc2, _⟩ := w2.bytes
  obtain ⟨cs, hcl, _, hcp⟩ := row_piece w0 (by omega)
  obtain ⟨ds, hdl, _, hdp⟩ := row_piece w1 (by omega)
  obtain ⟨bs, hbl, _, hbp⟩ := row_piece w2 (by omega)
  have HCP := hideIt hcp
  have HDP := hideIt hdp
  have HBP := hideIt hbp
  have HCL := hideIt hcl
  have HDL := hideIt hdl
  have HBL := hideIt hbl
  clear w0 w1 w2 hT hm hcp hcl hlc0 r0 hdp hdl hlc1 r1 hbp hbl hlc2 r2
  by_cases hlong : len2 ≤ 200 ∧ len0 ≤ 20
  · obtain ⟨h2, h0⟩ := hlong
    have h2' : ¬ (200 : Int) < (len2 : Int) := by omega
    have h0' : ¬ (20 : Int) < (len0 : Int) := by omega
    go_enter Tryd.func5, Tryd.ntmps5
    go_upto_region 4 with fail
    have S0 := hideIt (bk_start w (.slice a2 len2 cap2))
    obtain ⟨post, hpost⟩ : ∃ post, post = a3 := ⟨_, rfl⟩
    have HPOST := hideIt hpost
    clear hpost
    generalize (w.alloc (.cells #[.string ⟨#[72, 111, 115, 116]⟩, .string ⟨#[97]⟩] 40)).alloc (.cells #[.string ⟨#[71, 69, 84]⟩, .string ⟨#[47]⟩, .slice (some ⟨w.heap.size, 0, none⟩) 1 1, .slice a2 len2 cap2] 33) = X at *
    generalize w.heap.size + 1 = g at *
    cases a3
    case' false =>
      have S1 : Hid (BkSt g (bkM post) (bkP cs 0) (bkF ds 0) (.slice a2 len2 cap2) w X) := hideIt (by rw [HPOST.out]; exact S0.out)
      clear S0
      go_upto_region 6 with fail
    case' true =>
      have hq0 : ∃ fv, QCell X g (.string (strOf [71, 69, 84])) (.string (strOf [47])) fv (.slice a2 len2 cap2) := by
        obtain ⟨fv, hq, _⟩ := S0.out.row
        exact ⟨fv, hq⟩
      obtain ⟨fv0, hq⟩ := hq0
      have q0 := hq.c0
      have z0 := hq.fz 0
      have S1 : Hid (BkSt g (bkM post) (bkP cs 0) (bkF ds 0) (.slice a2 len2 cap2) w (X.setCell ⟨g, 0, none⟩ (.string ⟨#[80, 79, 83, 84]⟩))) := hideIt (by rw [HPOST.out]; exact S0.out.meth [80, 79, 83, 84])
      clear S0 hq
      go_upto_region 6 with fail
      clear q0 z0
      generalize X.setCell ⟨g, 0, none⟩ (.string ⟨#[80, 79, 83, 84]⟩) = X at *
    all_goals
      go_wp2_with fail
      go_loopw [10] (fun iv wr => ∃ j : Nat, j ≤ len0 ∧ iv = .int .i64 (j : Int) ∧ BkSt g (bkM post) (bkP cs j) (bkF ds 0) (.slice a2 len2 cap2) w wr) (fun iv wr => len0 - (intOf iv).toNat)
      case atStart => exact ⟨0, by omega, rfl, S1.out⟩
      case round =>
        obtain ⟨j, hj, rfl, hst⟩ := hrel
        have ST := hideIt hst
        clear hst
        have hwi : IntKind.i64.wrap ((j : Int) + 1) = (j : Int) + 1 := IntWalk.i64_in _ (by omega)
        by_cases hlt : j < len0
        · have hlt' : (j : Int) < (len0 : Int) := by omega
          have hjc : j < cs.length := by have := HCL.out; omega
          obtain ⟨b, off, rfl, hbl, hcells⟩ := HCP.out.bytes (by show 0 < cs.length; omega)
          have HCE : Hid (wr.cell? ⟨b, off + j, none⟩ = some (.int .u8 ((cs[j]).toNat : Int))) := hideIt ((ST.out.below.cell hbl).trans (hcells j hjc))
          have HBW : Hid (b < wr.heap.size) := hideIt (Nat.lt_of_lt_of_le hbl ST.out.below.size)
          have HCN := hideIt (bkC_nat cs[j])
          have EN := hideIt (bkP_succ cs j hjc)
          have hpl := bkP_len cs j
          have hx : (cs[j]).toNat < 256 := (cs[j]).toNat_lt
          obtain ⟨fv, hq, ho⟩ := ST.out.row
          have HQ := hideIt hq
          clear hcells hbl hq ho
          generalize bkC cs[j] = C at *
          generalize (cs[j]).toNat = x at *
          obtain ⟨p, hp⟩ : ∃ p, x % 94 = p := ⟨_, rfl⟩
          have hp94 : p < 94 := by rw [← hp]; exact Nat.mod_lt _ (by decide)
          rw [hp] at HCN
          have HP := hideIt hp
          have H1 := hideIt hlt
          clear hp
          generalize bkP cs j = S at *
          generalize hNN : bkP cs (j + 1) = N at *
          have HNN := hideIt hNN
          clear hNN
          go_wp2_with fail
          refine region_tail 11 [Fact.is (.pointer (some ⟨g, 0 + 1, none⟩)), Fact.str S, Fact.is (.slice (some ⟨b, off, none⟩) len0 cap0), Fact.is (.int .i64 ((j : Nat) : Int)), Fact.is (.pointer (some ⟨b, off + j, none⟩)), Fact.is (.int .u8 ((x : Nat) : Int)), Fact.is (.int .u8 ((p : Nat) : Int)), Fact.is (.int .u8 ((C.toNat : Nat) : Int)), Fact.piece [C], Fact.str [C], Fact.str N] (by kernel_rfl) (by kernel_rfl) (by kernel_rfl) ⟨fun a w1 m => ?_, fun a w1 m => ?_, fun a w1 m => ?_, fun a w1 m => ?_, fun a w1 m => ?_, fun a w1 m => ?_, fun a w1 m => ?_, fun a w1 m => ?_, fun a w1 m => ?_, fun a w1 m => ?_, fun a w1 m => ?_, trivial⟩ ?_
          · exact ok_fieldQ1 (wanted_none rfl) (.tmp 9) rfl g 0 (m.old 9 rfl)
          · exact ok_loadS (wanted_none rfl) (.tmp 42) rfl ⟨g, 0 + 1, none⟩ _ (m.has 0 42 rfl rfl) ((m.grew.cell (p := ⟨g, 1, none⟩) HQ.out.lt).trans HQ.out.c1)
          · exact ok_move (wanted_none rfl) (.tmp 0) rfl (m.old 0 rfl)
          · exact ok_move (wanted_none rfl) (.tmp 10) rfl (m.old 10 rfl)
          · exact ok_index (wanted_none rfl) (.tmp 44) (.tmp 45) rfl b off len0 cap0 j (m.has 2 44 rfl rfl) (m.has 3 45 rfl rfl) H1.out
          · exact ok_loadb (wanted_none rfl) (.tmp 46) rfl ⟨b, off + j, none⟩ _ (m.has 4 46 rfl rfl) ((m.grew.cell (p := ⟨b, off + j, none⟩) HBW.out).trans HCE.out)
          · exact ok_bin (wanted_none rfl) _ _ _ (.tmp 47) _ rfl _ _ _ (m.has 5 47 rfl rfl) rfl rfl (run_rem94 x p hx HP.out)
          · exact ok_bin (wanted_none rfl) _ _ _ _ (.tmp 48) rfl _ _ _ rfl (m.has 6 48 rfl rfl) rfl (run_add33 p C (by omega) HCN.out)
          · exact ok_buildB1 (wanted_none rfl) (.tmp 49) rfl C (m.has 7 49 rfl rfl)
          · exact ok_str (wanted_none rfl) (.tmp 50) rfl _ (m.has 8 50 rfl rfl)
          · exact ok_strcat (wanted_none rfl) (.tmp 43) (.tmp 51) _ rfl S [C] N (m.has 1 43 rfl rfl) (m.has 9 51 rfl rfl) (by simp; omega) EN.out.symm
          intro f w9 hg hf
          have e10 : f 10 = .string (strOf N) := hf 10 (by decide)
          have ST9 := hideIt (ST.out.keep hg)
          obtain ⟨fv9, hq9, _⟩ := ST9.out.row
          have q1 := hq9.c1
          have z1 := hq9.fz 1
          have ST10 := hideIt (ST9.out.path N)
          clear hf hg hq9
          simp only [List.take, List.drop, putAll, Act.put, List.setIfInBounds_toArray, List.set_cons_succ, List.set_cons_zero]
          rw [e10]
          clear e10
          go_wp2_with fail
          go_roundw
          case rel => exact ⟨j + 1, by omega, by go_num, by rw [HNN.out]; exact ST10.out⟩
          case measure => simp [intOf]; omega
        · obtain rfl : j = len0 := by omega
          have hlt' : ¬ (j : Int) < (j : Int) := by omega
          go_wp2_with fail
          have HJ := hideIt hj
          clear hj S1 hlt hlt'
          go_loopw [11] (fun iv wr' => ∃ i : Nat, i ≤ 20 ∧ i ≤ len1 ∧ iv = .int .i64 (i : Int) ∧ BkSt g (bkM post) (bkP cs j) (bkF ds i) (.slice a2 len2 cap2) w wr') (fun iv wr' => 20 - (intOf iv).toNat)
          case atStart => exact ⟨0, by omega, by omega, rfl, ST.out⟩
          case round =>
            clear ST
            obtain ⟨i, hi20, hil, rfl, hst⟩ := hrel
            have ST := hideIt hst
            clear hst
            have hwi : IntKind.i64.wrap ((i : Int) + 1) = (i : Int) + 1 := IntWalk.i64_in _ (by omega)
            by_cases hgo : i < len1 ∧ i < 20
            · obtain ⟨g1, g2⟩ := hgo
              have g1' : (i : Int) < (len1 : Int) := by omega
              have g2' : (i : Int) < 20 := by omega
              have hjc : i < ds.length := by have := HDL.out; omega
              obtain ⟨b, off, rfl, hbl, hcells⟩ := HDP.out.bytes (by show 0 < ds.length; omega)
              have HCE : Hid (wr.cell? ⟨b, off + i, none⟩ = some (.int .u8 ((ds[i]).toNat : Int))) := hideIt ((ST.out.below.cell hbl).trans (hcells i hjc))
              have HBW : Hid (b < wr.heap.size) := hideIt (Nat.lt_of_lt_of_le hbl ST.out.below.size)
              have HDN := hideIt (bkD_nat ds[i])
              have EN := hideIt (bkF_succ ds i hjc)
              have hpl := bkF_len ds i
              have hx : (ds[i]).toNat < 256 := (ds[i]).toNat_lt
              obtain ⟨fv, hq, ho⟩ := ST.out.row
              have HQ := hideIt hq
              have HO := hideIt ho
              clear hcells hbl hq ho
              unfold bkX at EN
              generalize bkD ds[i] = D at *
              generalize (ds[i]).toNat = x at *
              obtain ⟨p, hp⟩ : ∃ p, x % 26 = p := ⟨_, rfl⟩
              have hp26 : p < 26 := by rw [← hp]; exact Nat.mod_lt _ (by decide)
              rw [hp] at HDN
              have HP := hideIt hp
              have H1 := hideIt g1
              have HFL := hideIt hpl
              clear hp hpl
              go_wp2_with fail
              refine region_tail 12 [Fact.is (.pointer (some ⟨g, 0 + 2, none⟩)), Fact.is fv, Fact.is (.slice (some ⟨b, off, none⟩) len1 cap1), Fact.is (.int .i64 ((i : Nat) : Int)), Fact.is (.pointer (some ⟨b, off + i, none⟩)), Fact.is (.int .u8 ((x : Nat) : Int)), Fact.is (.int .u8 ((p : Nat) : Int)), Fact.is (.int .u8 ((D.toNat : Nat) : Int)), Fact.piece [D], Fact.str [D], Fact.is (.agg #[.string (strOf [88]), .string (strOf [D])]), Fact.prs [([88], [D])]] (by kernel_rfl) (by kernel_rfl) (by kernel_rfl) ⟨fun a w1 m => ?_, fun a w1 m => ?_, fun a w1 m => ?_, fun a w1 m => ?_, fun a w1 m => ?_, fun a w1 m => ?_, fun a w1 m => ?_, fun a w1 m => ?_, fun a w1 m => ?_, fun a w1 m => ?_, fun a w1 m => ?_, fun a w1 m => ?_, trivial⟩ ?_
              · exact ok_fieldQ2b (wanted_none rfl) (.tmp 9) rfl g 0 (m.old 9 rfl)
              · exact ok_loadFv (wanted_none rfl) (.tmp 64) rfl ⟨g, 0 + 2, none⟩ _ (m.has 0 64 rfl rfl) ((m.grew.cell (p := ⟨g, 2, none⟩) HQ.out.lt).trans HQ.out.c2)
              · exact ok_move (wanted_none rfl) (.tmp 1) rfl (m.old 1 rfl)
              · exact ok_move (wanted_none rfl) (.tmp 11) rfl (m.old 11 rfl)
              · exact ok_index (wanted_none rfl) (.tmp 66) (.tmp 67) rfl b off len1 cap1 i (m.has 2 66 rfl rfl) (m.has 3 67 rfl rfl) H1.out
              · exact ok_loadb (wanted_none rfl) (.tmp 68) rfl ⟨b, off + i, none⟩ _ (m.has 4 68 rfl rfl) ((m.grew.cell (p := ⟨b, off + i, none⟩) HBW.out).trans HCE.out)
              · exact ok_bin (wanted_none rfl) _ _ _ (.tmp 69) _ rfl _ _ _ (m.has 5 69 rfl rfl) rfl rfl (run_rem26b x p hx HP.out)
              · exact ok_bin (wanted_none rfl) _ _ _ _ (.tmp 70) rfl _ _ _ rfl (m.has 6 70 rfl rfl) rfl (run_add97b p D (by omega) HDN.out)
              · exact ok_buildB1 (wanted_none rfl) (.tmp 71) rfl D (m.has 7 71 rfl rfl)
              · exact ok_str (wanted_none rfl) (.tmp 72) rfl _ (m.has 8 72 rfl rfl)
              · exact ok_structP (wanted_none rfl) _ (.tmp 73) rfl _ _ rfl (m.has 9 73 rfl rfl)
              · exact ok_rowPair (wanted_none rfl) (.tmp 74) rfl ([88], [D]) (m.has 10 74 rfl rfl)
              intro f w9 hg hf
              have e1 : f 1 = fv := hf 1 (by decide)
              obtain ⟨A, c, e11, _, _, hnil, hpa⟩ := (hf 11 (by decide) : PairsV (f 11) [([88], [D])] w9).form
              have BW := hideIt (below_then ST.out.below hg)
              have Q9 := hideIt (HQ.out.keep hg HQ.out.lt)
              have O9 := hideIt (HO.out.keep hg)
              have GE := hideIt ST.out.ge
              have HPA := hideIt hpa
              have HNL := hideIt hnil
              clear hf hg hpa hnil
              simp only [List.take, List.drop, putAll, Act.put, List.setIfInBounds_toArray, List.set_cons_succ, List.set_cons_zero]
              rw [e1, e11]
              clear e1 e11
              go_wp2_with (at_builtin; refine wpList_appP rfl (.tmp 65) (.tmp 75) rfl w.heap.size fv (bkF ds i) rfl O9.out A c [([88], [D])] rfl HNL.out HPA.out (by have := HFL.out; show _ + 1 ≤ _; omega) BW.out.size ?_)
              intro v' w' ho' hgr
              have Q8 := bk_cell Q9.out O9.out hgr
              have q2 := Q8.c2
              have z2 := Q8.fz 2
              have ST10 := hideIt (bk_flds GE.out BW.out Q9.out O9.out ho' hgr)
              obtain ⟨A', c', hv', _, _, _, _⟩ := ho'.open
              generalize (bkF ds i ++ [([88], [D])]).length = nl at hv'
              subst hv'
              clear Q8 ho' hgr
              rw [← EN.out] at ST10
              go_wp2_with fail
              go_roundw
              case rel => exact ⟨i + 1, by omega, by omega, by go_num, by first | exact ST10.out | simpa using ST10.out⟩
              case measure => simp [intOf]; omega
            · have hgo2 : ((i : Int) < (len1 : Int)) ∧ ¬ ((i : Int) < 20) ∨ ¬ ((i : Int) < (len1 : Int)) := by omega
              clear hwi hgo
              have HI := hideIt hi20
              clear hi20
              rcases hgo2 with ⟨k1, k2⟩ | k1
              all_goals
                go_wp2_with fail
                obtain ⟨fv, hq, ho⟩ := ST.out.row
                have HQ := hideIt hq
                have HO := hideIt ho
                have HFL := hideIt (bkF_len ds i)
                have GE := hideIt ST.out.ge
                clear hq ho
                refine region_tail 7 [Fact.is (.pointer (some ⟨g, 0 + 2, none⟩)), Fact.is fv, Fact.is (.slice a2 len2 cap2), Fact.is (.int .i64 ((len2 : Nat) : Int)), Fact.str (decimL len2), Fact.is (.agg #[.string (strOf lenLx), .string (strOf (decimL len2))]), Fact.prs [(lenLx, decimL len2)]] (by kernel_rfl) (by kernel_rfl) (by kernel_rfl) ⟨fun a w1 m => ?_, fun a w1 m => ?_, fun a w1 m => ?_, fun a w1 m => ?_, fun a w1 m => ?_, fun a w1 m => ?_, fun a w1 m => ?_, trivial⟩ ?_
                · exact ok_fieldQ2b (wanted_none rfl) (.tmp 9) rfl g 0 (m.old 9 rfl)
                · exact ok_loadFv (wanted_none rfl) (.tmp 78) rfl ⟨g, 0 + 2, none⟩ _ (m.has 0 78 rfl rfl) ((m.grew.cell (p := ⟨g, 2, none⟩) HQ.out.lt).trans HQ.out.c2)
                · exact ok_move (wanted_none rfl) (.tmp 2) rfl (m.old 2 rfl)
                · exact ok_len (wanted_none rfl) (.tmp 80) rfl _ _ _ (m.has 2 80 rfl rfl)
                · exact ok_fn (wanted_none rfl) _ _ _ rfl _ (map1 (m.has 3 81 rfl rfl)) go_digits (digits_any len2 w1 (by omega)) (by rintro e w' ⟨rfl, hb⟩; exact ⟨_, rfl, rfl, hb⟩)
                · exact ok_structP (wanted_none rfl) _ (.tmp 82) rfl _ _ rfl (m.has 4 82 rfl rfl)
                · exact ok_rowPair (wanted_none rfl) (.tmp 83) rfl (lenLx, decimL len2) (m.has 5 83 rfl rfl)
                intro f w9 hg hf
                have e1 : f 1 = fv := hf 1 (by decide)
                obtain ⟨A, c, e6, _, _, hnil, hpa⟩ := (hf 6 (by decide) : PairsV (f 6) [(lenLx, decimL len2)] w9).form
                have BW := hideIt (below_then ST.out.below hg)
                have Q9 := hideIt (HQ.out.keep hg HQ.out.lt)
                have O9 := hideIt (HO.out.keep hg)
                have HPA := hideIt hpa
                have HNL := hideIt hnil
                clear hf hg hpa hnil
                simp only [List.take, List.drop, putAll, Act.put, List.setIfInBounds_toArray, List.set_cons_succ, List.set_cons_zero]
                rw [e1, e6]
                clear e1 e6
                go_wp2_with (at_builtin; refine wpList_appP rfl (.tmp 79) (.tmp 84) rfl w.heap.size fv (bkF ds i) rfl O9.out A c [(lenLx, decimL len2)] rfl HNL.out HPA.out (by have := HFL.out; have := HI.out; show _ + 1 ≤ _; omega) BW.out.size ?_)
                intro v' w' ho' hgr
                have Q8 := bk_cell Q9.out O9.out hgr
                have q2 := Q8.c2
                have z2 := Q8.fz 2
                have S12 := hideIt (bk_flds GE.out BW.out Q9.out O9.out ho' hgr)
                rw [show bkF ds i ++ [(lenLx, decimL len2)] = bkG ds i len2 from rfl] at S12
                obtain ⟨A', c', hv', _, _, _, _⟩ := ho'.open
                generalize (bkF ds i ++ [(lenLx, decimL len2)]).length = nl at hv'
                subst hv'
                clear Q8 ho' hgr
                go_upto_region 15 with fail
                clear q2 z2 O9 Q9 BW HPA HNL HQ HO ST
                generalize w'.setCell ⟨g, 2, none⟩ (.slice A' nl c') = X2 at *
                have hbl := HBL.out
                have b1 := bk_req (post := post) (cs := cs) (ds := ds) (i := j) (j := i) (b := bs) h0 HI.out (by omega)
                have b2 := bk_may (post := post) (cs := cs) (ds := ds) (i := j) (j := i) (b := bs) h0 HI.out (by omega)
                have b3 := bk_more (post := post) (cs := cs) (ds := ds) (i := j) (j := i) (b := bs) h0 HI.out (by omega)
                have b4 := bk_less (post := post) (cs := cs) (ds := ds) (i := j) (j := i) (b := bs) h0 HI.out (by omega)
                have b5 := bk_len (post := post) (cs := cs) (ds := ds) (i := j) (j := i) (b := bs) h0 HI.out (by omega)
                have b6 := bk_bulk (post := post) (cs := cs) (ds := ds) (i := j) (j := i) (b := bs) h0 HI.out (by omega)
                rw [hbl] at b1 b2 b3 b4 b5 b6
                have r1 : (bkR post cs ds j i bs len2).m = bkM post := rfl
                have r2 : (bkR post cs ds j i bs len2).p = bkP cs j := rfl
                have r3 : (bkR post cs ds j i bs len2).fs = bkG ds i len2 := rfl
                have r4 : (bkR post cs ds j i bs len2).body = bs := rfl
                generalize bkR post cs ds j i bs len2 = R at *
                have hk0 : ((kindQ R : Nat) : Int) = 0 := by unfold kindQ; rw [b2]; rfl
                obtain ⟨fq, hq, ho⟩ := S12.out.row
                have hpf := ho.reads
                rw [← r3] at hpf
                obtain ⟨FA, fc, rfl, _, _, _, _⟩ := hpf.form
                rw [← r1, ← r2, show (.slice a2 len2 cap2 : Value) = .slice a2 R.body.length cap2 by rw [r4, hbl]] at hq
                have BX := hideIt S12.out.below
                have HPQ := hideIt (⟨hpf, by rw [r4]; exact HBP.out.keep BX.out⟩ : ReqParts (.slice FA R.fs.length fc) a2 cap2 R X2)
                have HPR := hideIt (httpprint_any R (.slice FA R.fs.length fc) a2 cap2 X2 HPQ.out (by omega) (HM.out.keep BX.out))
                unfold reqV at HPR
                have HQX := hideIt hq
                have q0 := hq.c0
                have q1 := hq.c1
                have q2 := hq.c2
                have q3 := hq.c3
                have RL : Hid (R.fs.length ≤ 1000000) := hideIt (by have := bulkQ_len R.fs; omega)
                have REQ := hideIt b1
                have MAY := hideIt b2
                have MORE := hideIt b3
                have LESS := hideIt b4
                have LEN := hideIt b5
                have HK0 := hideIt hk0
                clear b1 b2 b3 b4 b5 b6 r1 r2 r3 r4 hk0 hq ho hpf hbl
                go_wp2_with fail
                refine HPR.out.mono ?_
                rintro e u1 ⟨v, rfl, hmay, _, hb⟩
                rw [HK0.out]
                obtain ⟨gm, cm, rfl, hgm, hgl, hpc⟩ := (hmay MAY.out).open (by have := LEN.out; omega)
                have B1 := hideIt (below_then BX.out hb)
                have Q1 := hideIt (HQX.out.keep hb HQX.out.lt)
                have P1 := hideIt (HPQ.out.keep hb)
                have HP1 := hideIt (parse_any _ (textQ R) _ cm u1 hpc rfl (by have := LEN.out; omega) (HM.out.keep B1.out))
                rw [REQ.out] at HP1
                have HPC := hideIt hpc
                clear hmay hb hpc HPR HPQ HQX q0 q1 q2 q3 BX
                generalize hT : textQ R = T at *
                have hTL := LEN.out
                obtain ⟨tl, htl⟩ : ∃ n, T.length = n := ⟨_, rfl⟩
                rw [htl] at hTL HP1 LESS ⊢
                obtain ⟨t1, t2⟩ := hTL
                have HTL := hideIt htl
                clear htl hT
                go_wp2_with fail
                refine HP1.out.mono ?_
                rintro e u2 ⟨fv2, A2, c2, rfl, hparts, hb⟩
                obtain ⟨FB, fd, rfl, _⟩ := hparts.fields.form
                dsimp only at hparts ⊢
                unfold reqV
                go_upto_region 17 with fail
                have hbn := below_new u2 (.cells #[.string (strOf R.m), .string (strOf R.p), .slice FB R.fs.length fd, .slice A2 R.body.length c2] 33)
                have B2 := hideIt (below_then (below_then B1.out hb) hbn)
                have Q2 := (Q1.out.keep hb Q1.out.lt).keep hbn (Q1.out.keep hb Q1.out.lt).lt
                have Q3 := QCell.new u2 (.string (strOf R.m)) (.string (strOf R.p)) (.slice FB R.fs.length fd) (.slice A2 R.body.length c2)
                have PC2 := hideIt ((HPC.out.keep hb).keep hbn)
                have HSQ := hideIt (refsame4_any R R (.slice FA R.fs.length fc) (.slice FB R.fs.length fd) a2 A2 cap2 c2 _ ((P1.out.keep hb).keep hbn) (hparts.keep hbn) RL.out)
                rw [sameQ_refl] at HSQ
                unfold reqV at HSQ
                clear hb hbn hparts HP1 B1 Q1 P1 HPC
                generalize u2.alloc (.cells #[.string (strOf R.m), .string (strOf R.p), .slice FB R.fs.length fd, .slice A2 R.body.length c2] 33) = Y at *
                generalize u2.heap.size = g2 at *
                generalize strOf R.m = rm at *
                generalize strOf R.p = rp at *
                generalize R.fs.length = nr at *
                generalize R.body.length = nb at *
                have y0 := Q2.c0
                have y1 := Q2.c1
                have y2 := Q2.c2
                have y3 := Q2.c3
                have x0 := Q3.c0
                have x1 := Q3.c1
                have x2 := Q3.c2
                have x3 := Q3.c3
                clear Q2 Q3
                go_wp2_with fail
                refine HSQ.out.mono ?_
                rintro e u3 ⟨rfl, hb⟩
                have B3 := hideIt (below_then B2.out hb)
                have PC3 := hideIt (PC2.out.keep hb)
                clear hb HSQ B2 PC2 y0 y1 y2 y3 x0 x1 x2 x3
                have HTLE := HTL.out
                have GLT := hideIt (Nat.lt_of_lt_of_le hgl (Nat.le_of_eq rfl))
                have GM3 : Hid (gm < u3.heap.size) := hideIt (by obtain ⟨b', o', he, hlt, _⟩ := PC3.out.bytes (by show 0 < T.length; omega); cases he; exact hlt)
                have HW3 := hideIt B3.out.size
                go_wp2_with (at_builtin; refine wpList_app rfl (.tmp 109) (.tmp 110) rfl u3.heap.size (.slice none 0 0) 0 [] rfl ⟨rfl, Or.inl ⟨rfl, rfl⟩⟩ (some ⟨gm, 0, none⟩) tl cm _ T rfl HTLE (fun h => by cases h) PC3.out.bytes (by omega) (Nat.le_refl _) ?_)
                intro v4 w4 o4 g4
                have O4 : Hid (w4.ownsRow u3.heap.size 5 1 v4 tl (cellsOf T)) := hideIt (by simpa using o4)
                have B4 := hideIt (B3.out.grown g4 B3.out.size (fun k hk => by cases hk))
                have PC4 := hideIt (piece_own PC3.out g4 (fun k hk => by cases hk))
                have S4 := hideIt g4.size
                clear o4 g4 B3 PC3
                have hbn := below_new w4 (.cells #[.int .u8 0] 5)
                have B5 := hideIt (below_then B4.out hbn)
                have O5 := hideIt (World.ownsRow.alloc O4.out (.cells #[.int .u8 0] 5))
                have PC5 := hideIt (PC4.out.keep hbn)
                have S5 := hideIt (Nat.le_trans S4.out hbn.size)
                have HB1 := hideIt (bytes_one w4 (w4.heap.size + 1) (Nat.lt_succ_self _))
                clear hbn
                go_wp2_with (at_builtin; refine wpList_app rfl (.tmp 112) (.tmp 113) rfl u3.heap.size v4 tl T rfl O5.out (some ⟨w4.heap.size, 0, none⟩) 1 1 _ [0] rfl rfl (fun h => by cases h) HB1.out (by omega) S5.out ?_)
                intro v6 w6 o6 g6
                have B6 := hideIt (B5.out.grown g6 B5.out.size (fun k hk => Nat.le_trans HW3.out (World.ownsRow.lt O5.out k hk).1))
                have PC6 := hideIt (piece_own PC5.out g6 (fun k hk e => by have := (World.ownsRow.lt O5.out k hk).1; have := GM3.out; omega))
                obtain ⟨A6, c6, rfl, hl6, hp6⟩ := own_pieceAny o6 (by omega)
                have HP2 := hideIt (parse_any A6 (T ++ [0]) (tl + 1) c6 w6 hp6 hl6 (by omega) (HM.out.keep B6.out))
                have hmore := MORE.out
                generalize reqL (T ++ [0]) = R2 at *
                have hk13 : ((R2.2 : Nat) : Int) = 13 := by rw [hmore]; rfl
                have HK13 := hideIt hk13
                clear o6 g6 hp6 hl6 O4 B4 PC4 O5 B5 PC5 HB1 MORE hmore hk13 HW3 S4 S5
                generalize tl + 1 = n6 at *
                go_wp2_with fail
                refine HP2.out.mono ?_
                rintro e u7 ⟨fv3, A3, c3, rfl, hparts3, hb⟩
                obtain ⟨FC, fe, rfl, _⟩ := hparts3.fields.form
                rw [HK13.out]
                have hbn := below_new u7 (.cells #[.string (strOf R2.1.m), .string (strOf R2.1.p), .slice FC R2.1.fs.length fe, .slice A3 R2.1.body.length c3] 33)
                have B8 := hideIt (below_then (below_then B6.out hb) hbn)
                have PC8 := hideIt ((PC6.out.keep hb).keep hbn)
                unfold reqV
                clear hb hbn hparts3 HP2 B6 PC6
                go_upto_region 23 with fail
                generalize u7.alloc (.cells #[.string (strOf R2.1.m), .string (strOf R2.1.p), .slice FC R2.1.fs.length fe, .slice A3 R2.1.body.length c3] 33) = Z at *
                have hcm := PC8.out.fits
                simp only at hcm
                obtain ⟨k, hk⟩ : ∃ k, tl - 1 = k := ⟨_, rfl⟩
                have hws : IntKind.i64.wrap ((tl : Int) - 1) = (k : Int) := by rw [IntWalk.i64_in _ (by omega)]; omega
                have hsl := slice_hi (some ⟨gm, 0, none⟩) tl cm k (by omega) Z
                have HP3 := hideIt (parse_any (some ⟨gm, 0, none⟩) (T.take k) k cm Z (piece_take PC8.out k (by omega)) (by rw [List.length_take]; omega) (by omega) (HM.out.keep B8.out))
                have hless := LESS.out
                rw [hk] at hless
                generalize reqL (T.take k) = R3 at *
                have HLS := hideIt hless
                clear hless LESS hcm hk PC8
                go_wp2_with fail
                refine HP3.out.mono ?_
                rintro e u9 ⟨fv4, A4, c4, rfl, hparts4, hb⟩
                obtain ⟨FD, ff, rfl, _⟩ := hparts4.fields.form
                have hbn := below_new u9 (.cells #[.string (strOf R3.1.m), .string (strOf R3.1.p), .slice FD R3.1.fs.length ff, .slice A4 R3.1.body.length c4] 33)
                have B9 := hideIt (below_then (below_then B8.out hb) hbn)
                unfold reqV
                clear hb hbn hparts4 HP3 B8 hws hsl
                go_upto_region 24 with fail
                generalize u9.alloc (.cells #[.string (strOf R3.1.m), .string (strOf R3.1.p), .slice FD R3.1.fs.length ff, .slice A4 R3.1.body.length c4] 33) = Z2 at *
                by_cases hz : len2 = 0
                · have e4 : ((R3.2 : Nat) : Int) = 10 := by rw [HLS.out, if_pos hz]; rfl
                  rw [e4]
                  clear e4 HLS
                  subst hz
                  go_wp2_with fail
                  refine (HK.out _ B9.out).mono ?_
                  rintro e w10 ⟨rfl, hb⟩
                  have BT := hideIt (below_then B9.out hb)
                  clear hb
                  go_wp2_with fail
                  go_ret
                  exact ⟨rfl, BT.out⟩
                · have e4 : ((R3.2 : Nat) : Int) = 13 := by rw [HLS.out, if_neg hz]; rfl
                  have hpos : (0 : Int) < (len2 : Int) := by omega
                  rw [e4]
                  clear e4 HLS hz
                  go_wp2_with fail
                  refine (HK.out _ B9.out).mono ?_
                  rintro e w10 ⟨rfl, hb⟩
                  have BT := hideIt (below_then B9.out hb)
                  clear hb
                  go_wp2_with fail
                  go_ret
                  exact ⟨rfl, BT.out⟩
  · have hcase : (200 : Int) < (len2 : Int) ∨ ¬ (200 : Int) < (len2 : Int) ∧ (20 : Int) < (len0 : Int) := by omega
    clear hlong
    go_enter Tryd.func5, Tryd.ntmps5
    rcases hcase with h1 | ⟨h1, h2⟩
    all_goals
      go_wp2_with fail
      refine (HK.out w (Below.refl _ _)).mono ?_
      rintro e w1 ⟨rfl, hb⟩
      have HB := hideIt hb
      clear hb
      go_wp2_with fail
      go_ret
      exact ⟨rfl, HB.out⟩
end Go.Proofs.YtbojigimldfghaaDoor
