/- The walk of FillOnce. -/
import Derived.Test.YtccppgiigkmdbaaDoorFillKnown
import Derived.Test.YtccppgiigkmdbaaDoorFillPairs
import Derived.Test.YtccppgiigkmdbaaDoorUtfLaid
import Derived.Deep.Cut
import Derived.Handy
namespace Go.Proofs.YtccppgiigkmdbaaDoor
open Go.ChangeShapes Go.WideShapes Go.ChangeAt Go.RowKit
set_option linter.unusedVariables false
set_option linter.unusedSimpArgs false

/-- has it another name? -/
def notN (nm : List UInt8) (x : PairL) : Bool := !decide (x.1 = nm)
theorem fget_own {base : Nat} {v : Value} {ps : List PairL} {W : World} (h : POwn base v ps W) (nm : List UInt8) (r : List UInt8) (b : Bool) (hr : (getL ps nm).getD [] = r) (hb : (getL ps nm).isSome = b) (hl : ps.length ≤ 1000) (hv : ∀ x ∈ ps, x.1.length + x.2.length ≤ 1000) :
    Calls Tryd.prog 24 #[v, .string (strOf nm)] W fun e w' => e = .returned (.tuple #[.string (strOf r), .bool b]) ∧ Below W.heap.size W w' := by
  obtain ⟨A, c, rfl, h1, h2, h3, h4⟩ := h.open
  subst hr hb
  exact fget_any A _ c ps nm W h4 rfl (by omega) (fun x hx => by have := hv x hx; omega) h1 (by unfold maxLen at h2; omega)
theorem pairs_new (X : World) (x : PairL) : PairsAt (X.alloc (.cells #[.string (strOf x.1), .string (strOf x.2)] 33)) (some ⟨X.heap.size, 0, none⟩) [x] := fun _ => by
  refine ⟨X.heap.size, 0, rfl, by rw [alloc_size]; exact Nat.lt_succ_self _, fun j y hj => ?_⟩
  obtain ⟨rfl, rfl⟩ : j = 0 ∧ y = x := by
    cases j with
    | zero => simp at hj; exact ⟨rfl, hj.symm⟩
    | succ j => simp at hj
  constructor <;> (rw [cell_of_row _ _ _ _ _ _ (heap_alloc_new X _)]; rfl)
/-- append of one pair, that lies in a new block -/
theorem wpList_appP1 {X : World} {ops : Array Oper} {rest : List Oper} {o : Oper} {a : Act} {Q : Exit → Act → World → Prop} (hgd : o.guard = none) (s x : Operand)
    (ho : o.op = .call { callee := .builtin .append, args := #[s, x], argTypes := #[29, 29] })
    (base : Nat) (v : Value) (ps : List PairL) (y : PairL) (hs : a.eval s = v) (hown : POwn base v ps X) (hx : a.eval x = .slice (some ⟨X.heap.size, 0, none⟩) 1 1)
    (hlen : ps.length ≤ 1000) (hbase : base ≤ X.heap.size)
    (h : ∀ v' w', POwn base v' (ps ++ [y]) w' → (∀ k, k ≤ base → Below k X w') → wpList Tryd.prog ops Q rest (a.put o.dst v') w') : wpList Tryd.prog ops Q (o :: rest) a (X.alloc (.cells #[.string (strOf y.1), .string (strOf y.2)] 33)) := by
  refine wpList_appP hgd s x ho base v ps hs (hown.keep (below_new X _)) (some ⟨X.heap.size, 0, none⟩) 1 [y] hx (fun h => by cases h) (pairs_new X y) (by simp; omega) (by rw [alloc_size]; omega) ?_
  intro v' w' h1 h2
  refine h v' w' h1 fun k hk => ?_
  exact ((below_new X _).mono (by omega)).grown h2 (by have := (below_new X (.cells #[.string (strOf y.1), .string (strOf y.2)] 33)).size; omega) (fun j hj => by have := (hown.lt j hj).1; omega)
set_option maxHeartbeats 4000000 in
set_option maxRecDepth 8000 in
theorem fillOnce_walk (a0 : Option Addr) (len0 cap0 : Nat) (z0 : List Int) (a1 : ByteArray) (a2 : ByteArray) (a3 : ByteArray) (w : World) (w0 : IsRow .u8 w a0 len0 cap0 z0) (w1 : a1.size ≤ maxLen) (w2 : a2.size ≤ maxLen) (w3 : a3.size ≤ maxLen) (hT : Tabs w) (r0 : cap0 ≤ 140737488355328) (r1 : a1.size ≤ 140737488355328) (r2 : a2.size ≤ 140737488355328) (r3 : a3.size ≤ 140737488355328) :
    Calls Tryd.prog 6 #[.slice a0 len0 cap0, .string a1, .string a2, .string a3] w fun e w' => e = .returned (.bool true) ∧ Below w.heap.size w w' := by
  obtain ⟨_, _, hlc0, _⟩ := w0.bytes
  obtain ⟨bs0, hl0, _, hp0⟩ := row_piece w0 (by omega)
  obtain ⟨nm, rfl, e1⟩ := str_is a1
  obtain ⟨va, rfl, e2⟩ := str_is a2
  obtain ⟨ot, rfl, e3⟩ := str_is a3
  have s1 := strOf_size nm
  have s2 := strOf_size va
  have s3 := strOf_size ot
  rw [s1] at r1
  rw [s2] at r2
  rw [s3] at r3
  have hw1 : IntKind.i64.wrap ((nm.length : Int) + (va.length : Int)) = (nm.length : Int) + (va.length : Int) := IntWalk.i64_in _ (by omega)
  have hw2 : IntKind.i64.wrap ((nm.length : Int) + (va.length : Int) + (ot.length : Int)) = (nm.length : Int) + (va.length : Int) + (ot.length : Int) := IntWalk.i64_in _ (by omega)
  have HK := hideIt known7_any
  clear w0 w1 w2 w3 hT e1 e2 e3
  by_cases h200 : 200 < nm.length + va.length + ot.length
  · have h200' : (200 : Int) < (nm.length : Int) + (va.length : Int) + (ot.length : Int) := by omega
    clear h200 hp0 hl0
    go_enter Tryd.func6, Tryd.ntmps6
    go_wp2_with fail
    refine (HK.out _).mono ?_
    rintro e w1 ⟨rfl, b1⟩
    go_wp2_with fail
    go_ret
    exact ⟨rfl, b1⟩
  have h200' : ¬ (200 : Int) < (nm.length : Int) + (va.length : Int) + (ot.length : Int) := by omega
  by_cases h40 : 40 < len0
  · have h40' : (40 : Int) < (len0 : Int) := by omega
    clear h200 hp0 hl0
    go_enter Tryd.func6, Tryd.ntmps6
    go_wp2_with fail
    refine (HK.out _).mono ?_
    rintro e w1 ⟨rfl, b1⟩
    go_wp2_with fail
    go_ret
    exact ⟨rfl, b1⟩
  have h40' : ¬ (40 : Int) < (len0 : Int) := by omega
  have HPS := hideIt (pairs_any a0 bs0 len0 cap0 w hp0 hl0 (by omega))
  have HM := hideIt (pairsL_mem bs0)
  have hml := pairsL_len bs0
  have N1 : Hid (nm.length + va.length + ot.length ≤ 200) := hideIt (by omega)
  clear h200 hp0 hl0 h40
  generalize pairsL bs0 = ms at *
  obtain ⟨L, hL⟩ : ∃ L, ms.filter (notN nm) = L := ⟨_, rfl⟩
  have HL := hideIt hL
  have HLn : Hid (∀ x ∈ L, x.1 ≠ nm) := hideIt (by rw [← hL]; intro x hx; simpa [notN] using (List.mem_filter.1 hx).2)
  have HLm : Hid (∀ x ∈ L, x.1.length + x.2.length ≤ 1000) := hideIt (by rw [← hL]; intro x hx; have := HM.out x (List.mem_filter.1 hx).1; omega)
  have hLl : L.length ≤ 10 := by rw [← hL]; exact Nat.le_trans (List.length_filter_le ..) hml
  obtain ⟨L1, q1⟩ : ∃ L1, L ++ [(nm, va)] = L1 := ⟨_, rfl⟩
  obtain ⟨L2, q2⟩ : ∃ L2, L1 ++ [(nm, ot)] = L2 := ⟨_, rfl⟩
  have Q1 := hideIt q1
  have Q2 := hideIt q2
  have HL1 : Hid (L1.length ≤ 11 ∧ getL L1 nm = some va ∧ ∀ x ∈ L1, x.1.length + x.2.length ≤ 1000) := hideIt (by
    rw [← q1]
    refine ⟨by simp; omega, get_one L nm va HLn.out, fun x hx => ?_⟩
    rcases List.mem_append.1 hx with h | h
    · exact HLm.out x h
    · simp at h; subst h; have := N1.out; simp only; omega)
  have HL2 : Hid (L2.length ≤ 12 ∧ getL L2 nm = none ∧ ∀ x ∈ L2, x.1.length + x.2.length ≤ 1000) := hideIt (by
    rw [← q2]
    refine ⟨by have := HL1.out.1; simp; omega, by rw [← q1]; exact get_two L nm va ot HLn.out, fun x hx => ?_⟩
    rcases List.mem_append.1 hx with h | h
    · exact HL1.out.2.2 x h
    · simp at h; subst h; have := N1.out; simp only; omega)
  clear hL q1 q2
  go_enter Tryd.func6, Tryd.ntmps6
  go_wp2_with fail
  refine HPS.out.mono ?_
  rintro e w1 ⟨v1, rfl, ho1, hb1⟩
  obtain ⟨A, c, rfl, k1, k2, k3, k4⟩ := ho1.open
  have HP := hideIt k4
  have HB1 := hideIt hb1
  unfold maxLen at k2
  clear ho1 hb1 k3 k4 HPS
  go_wp2_with fail
  go_loopw [9, 11] (fun v i wr => ∃ j : Nat, j ≤ ms.length ∧ i = .int .i64 (j : Int) ∧ POwn w1.heap.size v ((ms.take j).filter (notN nm)) wr ∧ Below w1.heap.size w1 wr) (fun _ i _ => ms.length - (intOf i).toNat)
  case atStart => exact ⟨0, by omega, rfl, POwn.nil _ _, Below.refl _ _⟩
  case round =>
    obtain ⟨j, hj, rfl, ho, hb⟩ := hrel
    have HO := hideIt ho
    have HB := hideIt hb
    clear ho hb
    have hwj : IntKind.i64.wrap ((j : Int) + 1) = (j : Int) + 1 := IntWalk.i64_in _ (by omega)
    by_cases hlt : j < ms.length
    · have hlt' : (j : Int) < (ms.length : Int) := by omega
      obtain ⟨x, hx⟩ : ∃ x, ms[j]? = some x := ⟨_, List.getElem?_eq_getElem hlt⟩
      obtain ⟨b, off, rfl, lb, kb⟩ := (HP.out.keep HB.out) (by omega)
      obtain ⟨b1, b2⟩ := kb j x hx
      have HF : Hid ((ms.take (j + 1)).filter (notN nm) = (ms.take j).filter (notN nm) ++ if x.1 ≠ nm then [x] else []) := hideIt (by
        rw [List.take_add_one, hx, List.filter_append]; simp [List.filter_cons, notN])
      have HFL : Hid (((ms.take j).filter (notN nm)).length ≤ 10) := hideIt (Nat.le_trans (List.length_filter_le ..) (by rw [List.length_take]; omega))
      clear kb hx lb
      rw [show off + 2 * j = off + j * 2 by omega] at b1 b2
      by_cases he : x.1 = nm
      · rw [if_neg (by simpa using he), List.append_nil] at HF
        have hs : (strOf x.1).toList = (strOf nm).toList := by rw [he]
        go_wp2_with fail
        go_roundw
        case rel => exact ⟨j + 1, by omega, by go_num, by rw [HF.out]; exact HO.out, HB.out⟩
        case measure => simp [intOf]; omega
      · rw [if_pos he] at HF
        have hs : ((strOf x.1).toList == (strOf nm).toList) = false := str_ne he
        go_wp2_with (at_builtin; refine wpList_appP1 rfl (.tmp 48) (.tmp 53) rfl w1.heap.size _ _ x rfl HO.out rfl (by have := HFL.out; omega) HB.out.size ?_)
        intro v7 w7 o7 g7
        have O7 : Hid (POwn w1.heap.size v7 ((ms.take (j + 1)).filter (notN nm)) w7) := hideIt (by rw [HF.out]; exact o7)
        have B7 : Hid (Below w1.heap.size w1 w7) := hideIt (HB.out.trans (g7 _ (Nat.le_refl _)))
        clear o7 g7
        go_wp2_with fail
        go_roundw
        case rel => exact ⟨j + 1, by omega, by go_num, O7.out, B7.out⟩
        case measure => simp [intOf]; omega
    · obtain rfl : j = ms.length := by omega
      have hlt' : ¬ (ms.length : Int) < (ms.length : Int) := by omega
      have HO1 : Hid (POwn w1.heap.size u9 L wr) := hideIt (by have := HO.out; rw [List.take_length, HL.out] at this; exact this)
      have G1 := hideIt (fget_own HO1.out nm [] false (by rw [get_none L nm HLn.out]; rfl) (by rw [get_none L nm HLn.out]; rfl) (by omega) HLm.out)
      have BB : Hid (Below w.heap.size w wr) := hideIt (HB1.out.trans (HB.out.mono HB1.out.size))
      have S1 : Hid (w1.heap.size ≤ wr.heap.size) := hideIt HB.out.size
      clear HO HB
      go_wp2_with fail
      refine G1.out.mono ?_
      rintro e w2 ⟨rfl, b2⟩
      have HO2 := hideIt (HO1.out.keep b2)
      have B2 := hideIt (below_then BB.out b2)
      have S2 : Hid (w1.heap.size ≤ w2.heap.size) := hideIt (Nat.le_trans S1.out b2.size)
      clear b2 G1 HO1 BB
      go_wp2_with (at_builtin; refine wpList_appP1 rfl (.tmp 61) (.tmp 65) rfl w1.heap.size _ L (nm, va) rfl HO2.out rfl (by omega) S2.out ?_)
      intro v3 w3 o3 g3
      rw [Q1.out] at o3
      have HO3 := hideIt o3
      have B3 : Hid (Below w.heap.size w w3) := hideIt (B2.out.trans (g3 _ HB1.out.size))
      have S3 : Hid (w1.heap.size ≤ w3.heap.size) := hideIt (Nat.le_trans S2.out (g3 _ HB1.out.size).size)
      have G3 := hideIt (fget_own HO3.out nm va true (by rw [HL1.out.2.1]; rfl) (by rw [HL1.out.2.1]; rfl) (by have := HL1.out.1; omega) HL1.out.2.2)
      clear o3 g3 HO2 B2 S2
      go_wp2_with fail
      refine G3.out.mono ?_
      rintro e w4 ⟨rfl, b4⟩
      have HO4 := hideIt (HO3.out.keep b4)
      have B4 := hideIt (below_then B3.out b4)
      have S4 : Hid (w1.heap.size ≤ w4.heap.size) := hideIt (Nat.le_trans S3.out b4.size)
      clear b4 G3 HO3 B3 S3
      go_wp2_with (at_builtin; refine wpList_appP1 rfl (.tmp 73) (.tmp 77) rfl w1.heap.size _ L1 (nm, ot) rfl HO4.out rfl (by have := HL1.out.1; omega) S4.out ?_)
      intro v5 w5 o5 g5
      rw [Q2.out] at o5
      have HO5 := hideIt o5
      have B5 : Hid (Below w.heap.size w w5) := hideIt (B4.out.trans (g5 _ HB1.out.size))
      have G5 := hideIt (fget_own HO5.out nm [] false (by rw [HL2.out.2.1]; rfl) (by rw [HL2.out.2.1]; rfl) (by have := HL2.out.1; omega) HL2.out.2.2)
      rw [show strOf [] = ⟨#[]⟩ from rfl] at G5
      clear o5 g5 HO4 B4 S4
      go_wp2_with fail
      refine G5.out.mono ?_
      rintro e w6 ⟨rfl, b6⟩
      have B6 := hideIt (below_then B5.out b6)
      clear b6 G5 HO5 B5
      go_wp2_with fail
      refine (HK.out _).mono ?_
      rintro e w7 ⟨rfl, b7⟩
      have B7 := hideIt (below_then B6.out b7)
      clear b7 B6
      go_wp2_with fail
      go_ret
      exact ⟨rfl, B7.out⟩
end Go.Proofs.YtccppgiigkmdbaaDoor
