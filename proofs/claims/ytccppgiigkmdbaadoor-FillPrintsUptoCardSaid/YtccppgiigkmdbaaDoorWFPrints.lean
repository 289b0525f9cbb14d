/- The walk of FillPrints, in the second form. -/
import Derived.Test.YtccppgiigkmdbaaDoorFillKnown
import Derived.Test.YtccppgiigkmdbaaDoorFillPairs
import Derived.Test.YtccppgiigkmdbaaDoorFillHeavy
import Derived.Test.YtccppgiigkmdbaaDoorFillFacts
import Derived.Test.YtccppgiigkmdbaaDoorRefFillPrint
import Derived.Test.YtccppgiigkmdbaaDoorWFJoin
import Derived.Test.YtccppgiigkmdbaaDoorUtfLaid
import Derived.Deep.Cut
import Derived.Handy
namespace Go.Proofs.YtccppgiigkmdbaaDoor
open Go.ChangeShapes Go.WideShapes Go.ChangeAt Go.RowKit
set_option linter.unusedVariables false
set_option linter.unusedSimpArgs false

set_option maxHeartbeats 2000000 in
theorem lget_any (v : Value) (ps : List PairL) (nm : List UInt8) (w : World) (h : PairsV v ps w) (hb : bulkP ps ≤ 100000) :
    Calls Tryd.prog 19 #[v, .string (strOf nm)] w fun e w' => e = .returned (.bool true) ∧ Below w.heap.size w w' := by
  obtain ⟨A, c, rfl, h1, h2, h3, h4⟩ := h.form
  have hl := bulk_len ps
  have H1 := hideIt (fget_any A _ c ps nm w h4 rfl (by omega) (fun x hx => by have := bulk_mem ps x hx; omega) h1 h2)
  have H2 := hideIt (fun w' (hw : Below w.heap.size w w') => refget_any A _ c ps nm w' (h4.keep hw) rfl (by omega) h1 h2)
  clear h h3 h4
  generalize strOf ((getL ps nm).getD []) = s1 at *
  generalize (getL ps nm).isSome = b1 at *
  go_enter Tryd.func19, Tryd.ntmps19
  go_wp2_with fail
  refine H1.out.mono ?_
  rintro e w1 ⟨rfl, hb1⟩
  have B1 := hideIt hb1
  clear hb1
  go_wp2_with fail
  refine (H2.out w1 B1.out).mono ?_
  rintro e w2 ⟨rfl, hb2⟩
  have B2 := hideIt (below_then B1.out hb2)
  clear hb2
  go_wp2_with fail
  go_ret
  exact ⟨rfl, B2.out⟩
theorem go_lget : goFn Tryd.prog 19 = true := by kernel_rfl
section
variable {ops : Array Oper} {Q : Exit → Act → World → Prop} {o : Oper} {a : Act} {w : World}
theorem ok_refprint (hg : Region.wanted o (yielded ops a.tmps) = true) (x : Operand) (ts : Array TypeId) (ho : o.op = .call { callee := .value (.func 18), args := #[x], argTypes := ts }) (ps : List PairL) (h : PairsV (a.eval x) ps w) (hB : bulkP ps ≤ 100000) : StepOk Tryd.prog ops Q (Fact.piece (printL ps)) o a w := by
  obtain ⟨A, c, h1, h2, h3, h4, h5⟩ := h.form
  exact ok_fn hg _ _ _ ho _ (map1 h1) go_refprint (refprint_any A _ c ps w h5 rfl hB h2 h3) fun e w' ⟨A', c', h6, h7, h8⟩ => ⟨_, h6, ⟨A', c', rfl, h7⟩, h8⟩
theorem ok_lget (hg : Region.wanted o (yielded ops a.tmps) = true) (x y : Operand) (ts : Array TypeId) (ho : o.op = .call { callee := .value (.func 19), args := #[x, y], argTypes := ts }) (ps : List PairL) (nm : List UInt8) (h : PairsV (a.eval x) ps w) (h2 : a.eval y = .string (strOf nm)) (hB : bulkP ps ≤ 100000) : StepOk Tryd.prog ops Q (Fact.is (.bool true)) o a w :=
  ok_fn hg _ _ _ ho _ (map2 rfl h2) go_lget (lget_any _ ps nm w h hB) fun e w' ⟨h6, h8⟩ => ⟨_, h6, rfl, h8⟩
end
set_option maxHeartbeats 8000000 in
set_option maxRecDepth 8000 in
theorem fillPrintsUpto_walk (a0 : Option Addr) (len0 cap0 : Nat) (x0 : List PairL) (a1 : ByteArray) (a2 : Option Addr) (len2 cap2 : Nat) (z2 : List Int) (a3 : Int) (w : World) (w0 : IsPairs w a0 len0 cap0 x0) (w1 : a1.size ≤ maxLen) (w2 : IsRow .u8 w a2 len2 cap2 z2) (w3 : (Lit.int .u8 a3).wf = true) (hT : Tabs w) (r1 : a1.size ≤ 140737488355328) (r2 : cap2 ≤ 140737488355328) (b0 : bulkP x0 ≤ 1048576) :
    Calls Tryd.prog 4 #[.slice a0 len0 cap0, .string a1, .slice a2 len2 cap2, .int .u8 a3] w fun e w' => e = .returned (.bool true) ∧ Below w.heap.size w w' := by
  obtain ⟨nm, rfl, e1⟩ := str_is a1
  have s1 := strOf_size nm
  rw [s1] at r1
  have hi3 := bounds_u8 w3
  obtain ⟨k, rfl, hk256⟩ : ∃ n : Nat, a3 = (n : Int) ∧ n < 256 := ⟨a3.toNat, by omega, by omega⟩
  obtain ⟨_, _, hlc2, _⟩ := w2.bytes
  obtain ⟨bs2, hl2, _, hp2⟩ := row_piece w2 (by omega)
  have HK := hideIt known7_any
  have HH := hideIt (heavy_any a0 len0 cap0 x0 w w0)
  have V := hideIt w0.reads
  clear w0 w1 w2 w3 hT e1 hi3
  go_enter Tryd.func4, Tryd.ntmps4
  go_wp2_with fail
  refine HH.out.mono ?_
  rintro e w1 ⟨v1, rfl, ⟨⟨bo, rfl, hbo⟩⟩, b1⟩
  have B1 := hideIt b1
  have HBO := hideIt (hbo (by omega))
  clear b1 hbo HH
  cases bo
  · have hbulk : bulkP x0 ≤ 400 := by
      have := of_decide_eq_false HBO.out.symm
      omega
    have N0 := hideIt hbulk
    clear HBO hbulk b0
    by_cases h1 : 100 < nm.length
    · have h1' : (100 : Int) < (nm.length : Int) := by omega
      clear h1 hp2 hl2
      go_wp2_with fail
      refine (HK.out _).mono ?_
      rintro e w2 ⟨rfl, b2⟩
      have B2 := hideIt (below_then B1.out b2)
      clear b2
      go_wp2_with fail
      go_ret
      exact ⟨rfl, B2.out⟩
    have h1' : ¬ (100 : Int) < (nm.length : Int) := by omega
    have HPS := hideIt (fun w' (hb : Below w.heap.size w w') => pairs_any a2 bs2 len2 cap2 w' (hp2.keep hb) hl2 (by omega))
    have HM := hideIt (pairsL_mem bs2)
    have hml := pairsL_len bs2
    clear hp2 hl2 h1
    generalize pairsL bs2 = ms at *
    have N9 : Hid (bulkP ms ≤ 140) := hideIt (by have := bulk_most ms (fun x hx => ⟨(HM.out x hx).2.1, (HM.out x hx).2.2⟩); omega)
    go_wp2_with fail
    refine (HK.out _).mono ?_
    rintro e w2 ⟨rfl, b2⟩
    have B2 := hideIt (below_then B1.out b2)
    clear b2 B1
    go_wp2_with fail
    refine (HPS.out w2 B2.out).mono ?_
    rintro e w3 ⟨v3, rfl, o3, b3⟩
    have B3 := hideIt (below_then B2.out b3)
    have V9 := hideIt o3.reads
    have V0 := hideIt (V.out.keep B3.out)
    clear o3 b3 B2 HPS V
    obtain ⟨A9, c9, rfl, q1, q2, q3, q4⟩ := V9.out.form
    have Q4 := hideIt q4
    clear q3 q4
    by_cases h0 : ms.length = 0
    · have h0' : ¬ (0 : Int) < (ms.length : Int) := by omega
      clear h0
      go_upto_region 7 with fail
      refine region_inv [Fact.prs x0, Fact.piece (printL x0), Fact.str (printL x0), Fact.prs x0, Fact.piece (printL x0), Fact.str (printL x0), Fact.is (.bool true), Fact.is (.bool true), Fact.prs ms, Fact.piece (printL ms), Fact.str (printL ms), Fact.prs ms, Fact.piece (printL ms), Fact.str (printL ms), Fact.is (.bool true), Fact.is (.bool true), Fact.is (.bool true), Fact.prs x0, Fact.str (nm), Fact.is (.bool true), Fact.is (.bool true), Fact.is (.bool true), Fact.prs ms, Fact.str (nm), Fact.is (.bool true), Fact.is (.bool true), Fact.is (.bool true), Fact.prs ms, Fact.is (.bool true), Fact.is (.bool true), Fact.is (.bool true)] (by kernel_rfl) (by kernel_rfl) ⟨fun a w1 m => ?_, fun a w1 m => ?_, fun a w1 m => ?_, fun a w1 m => ?_, fun a w1 m => ?_, fun a w1 m => ?_, fun a w1 m => ?_, fun a w1 m => ?_, fun a w1 m => ?_, fun a w1 m => ?_, fun a w1 m => ?_, fun a w1 m => ?_, fun a w1 m => ?_, fun a w1 m => ?_, fun a w1 m => ?_, fun a w1 m => ?_, fun a w1 m => ?_, fun a w1 m => ?_, fun a w1 m => ?_, fun a w1 m => ?_, fun a w1 m => ?_, fun a w1 m => ?_, fun a w1 m => ?_, fun a w1 m => ?_, fun a w1 m => ?_, fun a w1 m => ?_, fun a w1 m => ?_, fun a w1 m => ?_, fun a w1 m => ?_, fun a w1 m => ?_, fun a w1 m => ?_, trivial⟩ ?_
      · exact ok_move (wanted_none rfl) (.tmp 0) rfl (by rw [m.old 0 rfl]; exact V0.out.keep m.grew)
      · exact ok_print (wanted_none rfl) (.tmp 38) _ rfl x0 (show PairsV (a.eval (.tmp 38)) _ w1 from m.has 0 38 rfl rfl) (by have := N0.out; omega)
      · exact ok_str (wanted_none rfl) (.tmp 39) rfl _ (m.has 1 39 rfl rfl)
      · exact ok_move (wanted_none rfl) (.tmp 0) rfl (by rw [m.old 0 rfl]; exact V0.out.keep m.grew)
      · exact ok_refprint (wanted_none rfl) (.tmp 41) _ rfl x0 (show PairsV (a.eval (.tmp 41)) _ w1 from m.has 3 41 rfl rfl) (by have := N0.out; omega)
      · exact ok_str (wanted_none rfl) (.tmp 42) rfl _ (m.has 4 42 rfl rfl)
      · exact ok_streq (wanted_none rfl) (.tmp 40) (.tmp 43) _ rfl _ _ (m.has 2 40 rfl rfl) (m.has 5 43 rfl rfl) _ (decide_eq_true rfl)
      · exact ok_move (wanted_none rfl) (.tmp 44) rfl (m.has 6 44 rfl rfl)
      · exact ok_move (wanted_some 7 true rfl 45 rfl true (m.has 7 45 rfl rfl)) (.tmp 9) rfl (by rw [m.old 9 rfl]; exact V9.out.keep m.grew)
      · exact ok_print (wanted_some 7 true rfl 45 rfl true (m.has 7 45 rfl rfl)) (.tmp 46) _ rfl ms (show PairsV (a.eval (.tmp 46)) _ w1 from m.has 8 46 rfl rfl) (by have := N9.out; omega)
      · exact ok_str (wanted_some 7 true rfl 45 rfl true (m.has 7 45 rfl rfl)) (.tmp 47) rfl _ (m.has 9 47 rfl rfl)
      · exact ok_move (wanted_some 7 true rfl 45 rfl true (m.has 7 45 rfl rfl)) (.tmp 9) rfl (by rw [m.old 9 rfl]; exact V9.out.keep m.grew)
      · exact ok_refprint (wanted_some 7 true rfl 45 rfl true (m.has 7 45 rfl rfl)) (.tmp 49) _ rfl ms (show PairsV (a.eval (.tmp 49)) _ w1 from m.has 11 49 rfl rfl) (by have := N9.out; omega)
      · exact ok_str (wanted_some 7 true rfl 45 rfl true (m.has 7 45 rfl rfl)) (.tmp 50) rfl _ (m.has 12 50 rfl rfl)
      · exact ok_streq (wanted_some 7 true rfl 45 rfl true (m.has 7 45 rfl rfl)) (.tmp 48) (.tmp 51) _ rfl _ _ (m.has 10 48 rfl rfl) (m.has 13 51 rfl rfl) _ (decide_eq_true rfl)
      · exact ok_pickT (wanted_none rfl) (.tmp 45) _ _ rfl (m.has 7 45 rfl rfl) (m.has 14 52 rfl rfl)
      · exact ok_move (wanted_none rfl) (.tmp 53) rfl (m.has 15 53 rfl rfl)
      · exact ok_move (wanted_some 16 true rfl 54 rfl true (m.has 16 54 rfl rfl)) (.tmp 0) rfl (by rw [m.old 0 rfl]; exact V0.out.keep m.grew)
      · exact ok_move (wanted_some 16 true rfl 54 rfl true (m.has 16 54 rfl rfl)) (.tmp 1) rfl (m.old 1 rfl)
      · exact ok_lget (wanted_some 16 true rfl 54 rfl true (m.has 16 54 rfl rfl)) (.tmp 55) (.tmp 56) _ rfl x0 nm (show PairsV (a.eval (.tmp 55)) _ w1 from m.has 17 55 rfl rfl) (m.has 18 56 rfl rfl) (by have := N0.out; omega)
      · exact ok_pickT (wanted_none rfl) (.tmp 54) _ _ rfl (m.has 16 54 rfl rfl) (m.has 19 57 rfl rfl)
      · exact ok_move (wanted_none rfl) (.tmp 58) rfl (m.has 20 58 rfl rfl)
      · exact ok_move (wanted_some 21 true rfl 59 rfl true (m.has 21 59 rfl rfl)) (.tmp 9) rfl (by rw [m.old 9 rfl]; exact V9.out.keep m.grew)
      · exact ok_move (wanted_some 21 true rfl 59 rfl true (m.has 21 59 rfl rfl)) (.tmp 10) rfl (m.old 10 rfl)
      · exact ok_lget (wanted_some 21 true rfl 59 rfl true (m.has 21 59 rfl rfl)) (.tmp 60) (.tmp 61) _ rfl ms nm (show PairsV (a.eval (.tmp 60)) _ w1 from m.has 22 60 rfl rfl) (m.has 23 61 rfl rfl) (by have := N9.out; omega)
      · exact ok_pickT (wanted_none rfl) (.tmp 59) _ _ rfl (m.has 21 59 rfl rfl) (m.has 24 62 rfl rfl)
      · exact ok_move (wanted_none rfl) (.tmp 63) rfl (m.has 25 63 rfl rfl)
      · exact ok_move (wanted_some 26 true rfl 64 rfl true (m.has 26 64 rfl rfl)) (.tmp 9) rfl (by rw [m.old 9 rfl]; exact V9.out.keep m.grew)
      · exact ok_lget (wanted_some 26 true rfl 64 rfl true (m.has 26 64 rfl rfl)) (.tmp 65) _ _ rfl ms [110] (show PairsV (a.eval (.tmp 65)) _ w1 from m.has 27 65 rfl rfl) (rfl) (by have := N9.out; omega)
      · exact ok_pickT (wanted_none rfl) (.tmp 64) _ _ rfl (m.has 26 64 rfl rfl) (m.has 28 66 rfl rfl)
      · exact ok_assign (wanted_none rfl) (.tmp 67) rfl (m.has 29 67 rfl rfl)
      intro f w9 hg hf
      exact fin_ret ‹_› rfl rfl rfl 30 rfl ⟨congrArg Ending.returned (hf 30 (by decide)), below_then B3.out hg⟩
    · have h0' : (0 : Int) < (ms.length : Int) := by omega
      have hmod : k % ms.length < ms.length := Nat.mod_lt _ (by omega)
      have htm : Int.tmod (k : Int) (ms.length : Int) = ((k % ms.length : Nat) : Int) := by rw [Int.tmod_eq_emod_of_nonneg (by omega)]; rfl
      have hwk : IntKind.i64.wrap (k : Int) = (k : Int) := IntWalk.i64_in _ (by omega)
      have hne : ¬ (ms.length : Int) = 0 := by omega
      have hwm : IntKind.i64.wrap ((k % ms.length : Nat) : Int) = ((k % ms.length : Nat) : Int) := IntWalk.i64_in _ (by omega)
      obtain ⟨x, hx⟩ : ∃ x, ms[k % ms.length]? = some x := ⟨_, List.getElem?_eq_getElem hmod⟩
      obtain ⟨b, off, rfl, lb, kb⟩ := Q4.out (by omega)
      obtain ⟨c1, c2⟩ := kb _ x hx
      rw [show off + 2 * (k % ms.length) = off + (k % ms.length) * 2 by omega] at c1 c2
      obtain ⟨nk, y⟩ := x
      simp only at c1
      clear kb hx lb c2 h0
      have hmi : ((k % ms.length : Nat) : Int) < (ms.length : Int) := by omega
      generalize k % ms.length = q at *
      go_upto_region 7 with fail
      refine region_inv [Fact.prs x0, Fact.piece (printL x0), Fact.str (printL x0), Fact.prs x0, Fact.piece (printL x0), Fact.str (printL x0), Fact.is (.bool true), Fact.is (.bool true), Fact.prs ms, Fact.piece (printL ms), Fact.str (printL ms), Fact.prs ms, Fact.piece (printL ms), Fact.str (printL ms), Fact.is (.bool true), Fact.is (.bool true), Fact.is (.bool true), Fact.prs x0, Fact.str (nm), Fact.is (.bool true), Fact.is (.bool true), Fact.is (.bool true), Fact.prs ms, Fact.str (nk), Fact.is (.bool true), Fact.is (.bool true), Fact.is (.bool true), Fact.prs ms, Fact.is (.bool true), Fact.is (.bool true), Fact.is (.bool true)] (by kernel_rfl) (by kernel_rfl) ⟨fun a w1 m => ?_, fun a w1 m => ?_, fun a w1 m => ?_, fun a w1 m => ?_, fun a w1 m => ?_, fun a w1 m => ?_, fun a w1 m => ?_, fun a w1 m => ?_, fun a w1 m => ?_, fun a w1 m => ?_, fun a w1 m => ?_, fun a w1 m => ?_, fun a w1 m => ?_, fun a w1 m => ?_, fun a w1 m => ?_, fun a w1 m => ?_, fun a w1 m => ?_, fun a w1 m => ?_, fun a w1 m => ?_, fun a w1 m => ?_, fun a w1 m => ?_, fun a w1 m => ?_, fun a w1 m => ?_, fun a w1 m => ?_, fun a w1 m => ?_, fun a w1 m => ?_, fun a w1 m => ?_, fun a w1 m => ?_, fun a w1 m => ?_, fun a w1 m => ?_, fun a w1 m => ?_, trivial⟩ ?_
      · exact ok_move (wanted_none rfl) (.tmp 0) rfl (by rw [m.old 0 rfl]; exact V0.out.keep m.grew)
      · exact ok_print (wanted_none rfl) (.tmp 38) _ rfl x0 (show PairsV (a.eval (.tmp 38)) _ w1 from m.has 0 38 rfl rfl) (by have := N0.out; omega)
      · exact ok_str (wanted_none rfl) (.tmp 39) rfl _ (m.has 1 39 rfl rfl)
      · exact ok_move (wanted_none rfl) (.tmp 0) rfl (by rw [m.old 0 rfl]; exact V0.out.keep m.grew)
      · exact ok_refprint (wanted_none rfl) (.tmp 41) _ rfl x0 (show PairsV (a.eval (.tmp 41)) _ w1 from m.has 3 41 rfl rfl) (by have := N0.out; omega)
      · exact ok_str (wanted_none rfl) (.tmp 42) rfl _ (m.has 4 42 rfl rfl)
      · exact ok_streq (wanted_none rfl) (.tmp 40) (.tmp 43) _ rfl _ _ (m.has 2 40 rfl rfl) (m.has 5 43 rfl rfl) _ (decide_eq_true rfl)
      · exact ok_move (wanted_none rfl) (.tmp 44) rfl (m.has 6 44 rfl rfl)
      · exact ok_move (wanted_some 7 true rfl 45 rfl true (m.has 7 45 rfl rfl)) (.tmp 9) rfl (by rw [m.old 9 rfl]; exact V9.out.keep m.grew)
      · exact ok_print (wanted_some 7 true rfl 45 rfl true (m.has 7 45 rfl rfl)) (.tmp 46) _ rfl ms (show PairsV (a.eval (.tmp 46)) _ w1 from m.has 8 46 rfl rfl) (by have := N9.out; omega)
      · exact ok_str (wanted_some 7 true rfl 45 rfl true (m.has 7 45 rfl rfl)) (.tmp 47) rfl _ (m.has 9 47 rfl rfl)
      · exact ok_move (wanted_some 7 true rfl 45 rfl true (m.has 7 45 rfl rfl)) (.tmp 9) rfl (by rw [m.old 9 rfl]; exact V9.out.keep m.grew)
      · exact ok_refprint (wanted_some 7 true rfl 45 rfl true (m.has 7 45 rfl rfl)) (.tmp 49) _ rfl ms (show PairsV (a.eval (.tmp 49)) _ w1 from m.has 11 49 rfl rfl) (by have := N9.out; omega)
      · exact ok_str (wanted_some 7 true rfl 45 rfl true (m.has 7 45 rfl rfl)) (.tmp 50) rfl _ (m.has 12 50 rfl rfl)
      · exact ok_streq (wanted_some 7 true rfl 45 rfl true (m.has 7 45 rfl rfl)) (.tmp 48) (.tmp 51) _ rfl _ _ (m.has 10 48 rfl rfl) (m.has 13 51 rfl rfl) _ (decide_eq_true rfl)
      · exact ok_pickT (wanted_none rfl) (.tmp 45) _ _ rfl (m.has 7 45 rfl rfl) (m.has 14 52 rfl rfl)
      · exact ok_move (wanted_none rfl) (.tmp 53) rfl (m.has 15 53 rfl rfl)
      · exact ok_move (wanted_some 16 true rfl 54 rfl true (m.has 16 54 rfl rfl)) (.tmp 0) rfl (by rw [m.old 0 rfl]; exact V0.out.keep m.grew)
      · exact ok_move (wanted_some 16 true rfl 54 rfl true (m.has 16 54 rfl rfl)) (.tmp 1) rfl (m.old 1 rfl)
      · exact ok_lget (wanted_some 16 true rfl 54 rfl true (m.has 16 54 rfl rfl)) (.tmp 55) (.tmp 56) _ rfl x0 nm (show PairsV (a.eval (.tmp 55)) _ w1 from m.has 17 55 rfl rfl) (m.has 18 56 rfl rfl) (by have := N0.out; omega)
      · exact ok_pickT (wanted_none rfl) (.tmp 54) _ _ rfl (m.has 16 54 rfl rfl) (m.has 19 57 rfl rfl)
      · exact ok_move (wanted_none rfl) (.tmp 58) rfl (m.has 20 58 rfl rfl)
      · exact ok_move (wanted_some 21 true rfl 59 rfl true (m.has 21 59 rfl rfl)) (.tmp 9) rfl (by rw [m.old 9 rfl]; exact V9.out.keep m.grew)
      · exact ok_move (wanted_some 21 true rfl 59 rfl true (m.has 21 59 rfl rfl)) (.tmp 10) rfl (m.old 10 rfl)
      · exact ok_lget (wanted_some 21 true rfl 59 rfl true (m.has 21 59 rfl rfl)) (.tmp 60) (.tmp 61) _ rfl ms nk (show PairsV (a.eval (.tmp 60)) _ w1 from m.has 22 60 rfl rfl) (m.has 23 61 rfl rfl) (by have := N9.out; omega)
      · exact ok_pickT (wanted_none rfl) (.tmp 59) _ _ rfl (m.has 21 59 rfl rfl) (m.has 24 62 rfl rfl)
      · exact ok_move (wanted_none rfl) (.tmp 63) rfl (m.has 25 63 rfl rfl)
      · exact ok_move (wanted_some 26 true rfl 64 rfl true (m.has 26 64 rfl rfl)) (.tmp 9) rfl (by rw [m.old 9 rfl]; exact V9.out.keep m.grew)
      · exact ok_lget (wanted_some 26 true rfl 64 rfl true (m.has 26 64 rfl rfl)) (.tmp 65) _ _ rfl ms [110] (show PairsV (a.eval (.tmp 65)) _ w1 from m.has 27 65 rfl rfl) (rfl) (by have := N9.out; omega)
      · exact ok_pickT (wanted_none rfl) (.tmp 64) _ _ rfl (m.has 26 64 rfl rfl) (m.has 28 66 rfl rfl)
      · exact ok_assign (wanted_none rfl) (.tmp 67) rfl (m.has 29 67 rfl rfl)
      intro f w9 hg hf
      exact fin_ret ‹_› rfl rfl rfl 30 rfl ⟨congrArg Ending.returned (hf 30 (by decide)), below_then B3.out hg⟩
  · go_wp2_with fail
    refine (HK.out _).mono ?_
    rintro e w2 ⟨rfl, b2⟩
    have B2 := hideIt (below_then B1.out b2)
    clear b2
    go_wp2_with fail
    go_ret
    exact ⟨rfl, B2.out⟩
end Go.Proofs.YtccppgiigkmdbaaDoor
