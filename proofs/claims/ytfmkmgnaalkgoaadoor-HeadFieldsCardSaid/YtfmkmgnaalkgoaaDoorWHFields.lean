/- The walk of HeadFields. -/
import Derived.Test.YtfmkmgnaalkgoaaDoorHeadKnown
import Derived.Test.YtfmkmgnaalkgoaaDoorHeadPick
import Derived.Test.YtfmkmgnaalkgoaaDoorRefHeadField
import Derived.Test.YtfmkmgnaalkgoaaDoorRefHeadSame
import Derived.Test.YtfmkmgnaalkgoaaDoorPairTwo
import Derived.Test.YtfmkmgnaalkgoaaDoorUtfLaid
namespace Go.Proofs.YtfmkmgnaalkgoaaDoor
open Go.ChangeShapes Go.WideShapes Go.ChangeAt Go.RowKit
set_option linter.unusedVariables false
set_option linter.unusedSimpArgs false

theorem fieldL_err (l : List UInt8) : (fieldL l).2 ≤ 12 := by
  unfold fieldL
  split
  · simp
  · split
    · split <;> simp
    · simp
theorem printF_err (p : PairL) : (printF p).2 ≤ 12 := by
  unfold printF
  split
  · split <;> simp
  · simp
set_option maxRecDepth 8000 in
set_option maxHeartbeats 4000000 in
theorem lfields_any (l : List UInt8) (w : World) (hl : l.length ≤ 1000000) :
    Calls Tryd.prog 13 #[.string (strOf l)] w fun e w' => e = .returned (.bool true) ∧ Below w.heap.size w w' := by
  have HF := hideIt (fun w => field_any l w hl)
  have HR := hideIt (fun w => reffield_any l w hl)
  have HT := hideIt (fun w => token_any l w hl)
  have HRT := hideIt (fun w => reftoken_any l w hl)
  have HV := hideIt (fun w => value_any l w hl)
  have HRV := hideIt (fun w => refvalue_any l w hl)
  have hn := fieldL_err l
  unfold pairV errV at HF
  unfold pairV errI at HR
  generalize (fieldL l).1.1 = x at *
  generalize (fieldL l).1.2 = y at *
  generalize (fieldL l).2 = n at *
  have hwn : IntKind.i64.wrap (n : Int) = (n : Int) := IntWalk.i64_in _ (by omega)
  clear hn hl
  generalize tokenL l = b1 at *
  generalize valueL l = b2 at *
  go_enter Tryd.func13, Tryd.ntmps13
  go_wp2_with fail
  refine (HF.out _).mono ?_
  rintro e u1 ⟨rfl, hb⟩
  have B1 := hideIt (below_then hb (below_new u1 (.cells #[.string (strOf x), .string (strOf y)] 23)))
  have T1 := hideIt (Two.new u1 (.string (strOf x)) (.string (strOf y)) 23)
  clear hb HF
  go_wp2_with fail
  generalize u1.heap.size = g1 at *
  refine (HR.out _).mono ?_
  rintro e u2 ⟨rfl, hb⟩
  have T2 := hideIt (T1.out.keep hb)
  have B2 := hideIt (below_then B1.out hb)
  have T3 := hideIt (T2.out.keep (below_new u2 (.cells #[.string (strOf x), .string (strOf y)] 23)))
  have A3 := Two.new u2 (.string (strOf x)) (.string (strOf y)) 23
  have B3 := hideIt (below_then B2.out (below_new u2 (.cells #[.string (strOf x), .string (strOf y)] 23)))
  have q0 := T3.out.c0
  have q1 := T3.out.c1
  have q2 := A3.c0
  have q3 := A3.c1
  clear hb HR T1 T2 T3 A3 B1 B2
  go_wp2_with fail
  refine (HT.out _).mono ?_
  rintro e u3 ⟨rfl, hb⟩
  have B4 := hideIt (below_then B3.out hb)
  clear hb HT B3 q0 q1 q2 q3
  go_wp2_with fail
  refine (HRT.out _).mono ?_
  rintro e u4 ⟨rfl, rfl⟩
  go_wp2_with fail
  refine (HV.out _).mono ?_
  rintro e u5 ⟨rfl, hb⟩
  have B5 := hideIt (below_then B4.out hb)
  clear hb HV B4
  go_wp2_with fail
  refine (HRV.out _).mono ?_
  rintro e u6 ⟨rfl, rfl⟩
  go_wp2_with fail
  go_ret
  exact ⟨rfl, B5.out⟩
set_option maxRecDepth 8000 in
set_option maxHeartbeats 4000000 in
theorem lprints_any (p : PairL) (w : World) (h1 : p.1.length ≤ 400000) (h2 : p.2.length ≤ 400000) :
    Calls Tryd.prog 14 #[.agg #[.string (strOf p.1), .string (strOf p.2)]] w fun e w' => e = .returned (.bool true) ∧ Below w.heap.size w w' := by
  have HP := hideIt (fun w => print_any p w (by omega) (by omega))
  have HR := hideIt (fun w => refprint_any p w h1 h2)
  have hn := printF_err p
  unfold pairV at HP HR
  generalize (printF p).1 = s at *
  generalize (printF p).2 = n at *
  have hwn : IntKind.i64.wrap (n : Int) = (n : Int) := IntWalk.i64_in _ (by omega)
  have P0 := PCell.new w p
  have q0 := P0.cell0
  have q1 := P0.cell1
  have B0 := hideIt (below_new w (.cells #[.string (strOf p.1), .string (strOf p.2)] 23))
  have P1 := hideIt P0
  clear hn h1 h2 P0
  generalize strOf p.1 = x at *
  generalize strOf p.2 = y at *
  go_enter Tryd.func14, Tryd.ntmps14
  go_wp2_with fail
  refine (HP.out _).mono ?_
  rintro e u1 ⟨rfl, hb⟩
  have B1 := hideIt (below_then B0.out hb)
  have r0 := (hb.cell (p := ⟨w.heap.size, 0, none⟩) (by rw [alloc_size]; exact Nat.lt_succ_self _)).trans q0
  have r1 := (hb.cell (p := ⟨w.heap.size, 1, none⟩) (by rw [alloc_size]; exact Nat.lt_succ_self _)).trans q1
  clear hb HP q0 q1 P1 B0
  go_wp2_with fail
  refine (HR.out _).mono ?_
  rintro e u2 ⟨rfl, hb⟩
  have B2 := hideIt (below_then B1.out hb)
  clear hb HR B1 r0 r1
  go_wp2_with fail
  go_ret
  exact ⟨rfl, B2.out⟩
set_option maxHeartbeats 4000000 in
theorem lsame_any (a b : List UInt8) (w : World) (ha : a.length ≤ 1000000) (hb : b.length ≤ 1000000) :
    Calls Tryd.prog 15 #[.string (strOf a), .string (strOf b)] w fun e w' => e = .returned (.bool true) ∧ Below w.heap.size w w' := by
  have HS := hideIt (fun w => same_any a b w (by omega) (by omega) (by omega))
  have HR := hideIt (fun w => refsame8_any a b w (by omega) (by omega) (by omega))
  clear ha hb
  generalize sameL a b = R at *
  go_enter Tryd.func15, Tryd.ntmps15
  go_wp2_with fail
  refine (HS.out _).mono ?_
  rintro e u1 ⟨rfl, hb⟩
  have B1 := hideIt hb
  clear hb HS
  go_wp2_with fail
  refine (HR.out _).mono ?_
  rintro e u2 ⟨rfl, hb⟩
  have B2 := hideIt (below_then B1.out hb)
  clear hb HR B1
  go_wp2_with fail
  go_ret
  exact ⟨rfl, B2.out⟩
set_option maxRecDepth 8000 in
set_option maxHeartbeats 8000000 in
theorem headFields_walk (a0 : ByteArray) (a1 : ByteArray) (x2 : PairL) (a3 : Option Addr) (len3 cap3 : Nat) (z3 : List Int) (a4 : Option Addr) (len4 cap4 : Nat) (z4 : List Int) (w : World) (w0 : a0.size ≤ maxLen) (w1 : a1.size ≤ maxLen) (w2 : x2.1.length ≤ 140737488355328 ∧ x2.2.length ≤ 140737488355328) (w3 : IsRow .u8 w a3 len3 cap3 z3) (w4 : IsRow .u8 w a4 len4 cap4 z4) (hT : Tabs w) (r0 : a0.size ≤ 140737488355328) (r1 : a1.size ≤ 140737488355328) (r3 : cap3 ≤ 140737488355328) (r4 : cap4 ≤ 140737488355328) :
    Calls Tryd.prog 3 #[.string a0, .string a1, pairV x2, .slice a3 len3 cap3, .slice a4 len4 cap4] w fun e w' => e = .returned (.bool true) ∧ Below w.heap.size w w' := by
  obtain ⟨s, rfl, e0⟩ := str_is a0
  obtain ⟨t, rfl, e1⟩ := str_is a1
  obtain ⟨p, q⟩ := x2
  obtain ⟨w2a, w2b⟩ := w2
  have zs := strOf_size s
  have zt := strOf_size t
  have zp := strOf_size p
  have zq := strOf_size q
  rw [zs] at r0
  rw [zt] at r1
  simp only at w2a w2b
  obtain ⟨_, _, hlc3, _⟩ := w3.bytes
  obtain ⟨bs3, hl3, _, hp3⟩ := row_piece w3 (by omega)
  obtain ⟨_, _, hlc4, _⟩ := w4.bytes
  obtain ⟨bs4, hl4, _, hp4⟩ := row_piece w4 (by omega)
  have HK := hideIt known8_any
  have HX : Hid (∀ w', Below w.heap.size w w' → Calls Tryd.prog 12 #[.slice a3 len3 cap3] w' fun e w'' => e = .returned (.string (strOf (lineOf bs3))) ∧ Below w'.heap.size w' w'') := hideIt fun w' hb => hline_any a3 bs3 len3 cap3 w' (hp3.keep hb) hl3 (by omega)
  have HY : Hid (∀ w', Below w.heap.size w w' → Calls Tryd.prog 12 #[.slice a4 len4 cap4] w' fun e w'' => e = .returned (.string (strOf (lineOf bs4))) ∧ Below w'.heap.size w' w'') := hideIt fun w' hb => hline_any a4 bs4 len4 cap4 w' (hp4.keep hb) hl4 (by omega)
  have hx := lineOf_len bs3
  have hy := lineOf_len bs4
  generalize lineOf bs3 = x at *
  generalize lineOf bs4 = y at *
  have hw1 : IntKind.i64.wrap ((s.length : Int) + (t.length : Int)) = (s.length : Int) + (t.length : Int) := IntWalk.i64_in _ (by omega)
  have hw2 : IntKind.i64.wrap ((s.length : Int) + (t.length : Int) + (p.length : Int)) = (s.length : Int) + (t.length : Int) + (p.length : Int) := IntWalk.i64_in _ (by omega)
  have hw3 : IntKind.i64.wrap ((s.length : Int) + (t.length : Int) + (p.length : Int) + (q.length : Int)) = (s.length : Int) + (t.length : Int) + (p.length : Int) + (q.length : Int) := IntWalk.i64_in _ (by omega)
  unfold pairV
  simp only
  have P0 := PCell.new w (p, q)
  have c0 := P0.cell0
  have c1 := P0.cell1
  simp only at P0 c0 c1
  have B0 := hideIt (below_new w (.cells #[.string (strOf p), .string (strOf q)] 23))
  have P1 := hideIt P0
  clear w0 w1 w3 w4 hT e0 e1 r3 r4 hp3 hp4 hl3 hl4 hlc3 hlc4 P0
  by_cases hgt : 500 < s.length + t.length + p.length + q.length
  · have hi : (500 : Int) < (s.length : Int) + (t.length : Int) + (p.length : Int) + (q.length : Int) := by omega
    clear hgt HX HY hx hy
    go_enter Tryd.func3, Tryd.ntmps3
    go_wp2_with fail
    refine (HK.out _).mono ?_
    rintro e u1 ⟨rfl, hb⟩
    have B1 := hideIt (below_then B0.out hb)
    clear hb
    go_wp2_with fail
    go_ret
    exact ⟨rfl, B1.out⟩
  have hi : ¬ (500 : Int) < (s.length : Int) + (t.length : Int) + (p.length : Int) + (q.length : Int) := by omega
  have HF1 := hideIt (fun w => lfields_any s w (by omega))
  have HF2 := hideIt (fun w => lfields_any x w (by omega))
  have HF3 : Hid (∀ w, Calls Tryd.prog 13 #[.string (⟨#[67, 111, 111, 107, 105, 101, 58]⟩ ++ strOf y)] w fun e w' => e = .returned (.bool true) ∧ Below w.heap.size w w') := hideIt fun w => by
    rw [show (⟨#[67, 111, 111, 107, 105, 101, 58]⟩ : ByteArray) = strOf [67, 111, 111, 107, 105, 101, 58] from rfl, strOf_append]
    exact lfields_any _ w (by simp; omega)
  have HF4 : Hid (∀ w, Calls Tryd.prog 13 #[.string (strOf s ++ ⟨#[58]⟩ ++ strOf t)] w fun e w' => e = .returned (.bool true) ∧ Below w.heap.size w w') := hideIt fun w => by
    rw [show (⟨#[58]⟩ : ByteArray) = strOf [58] from rfl, strOf_append, strOf_append]
    exact lfields_any _ w (by simp; omega)
  have HP1 := hideIt (fun w => lprints_any (p, q) w (by simp only; omega) (by simp only; omega))
  have HP2 := hideIt (fun w => lprints_any (x, y) w (by simp only; omega) (by simp only; omega))
  have HP3 : Hid (∀ w, Calls Tryd.prog 14 #[.agg #[.string ⟨#[97]⟩, .string (strOf y)]] w fun e w' => e = .returned (.bool true) ∧ Below w.heap.size w w') := hideIt fun w => lprints_any ([97], y) w (by simp) (by simp only; omega)
  have HS1 := hideIt (fun w => lsame_any s t w (by omega) (by omega))
  have HS2 := hideIt (fun w => lsame_any x y w (by omega) (by omega))
  have HS3 := hideIt (fun w => lsame_any x s w (by omega) (by omega))
  simp only at HP1 HP2
  have zx : (strOf x).size ≤ 420 := by rw [strOf_size]; exact hx
  have zy : (strOf y).size ≤ 420 := by rw [strOf_size]; exact hy
  have zsl : s.length ≤ 500 := by omega
  have ztl : t.length ≤ 500 := by omega
  clear hgt hx hy r0 r1 w2a w2b
  go_enter Tryd.func3, Tryd.ntmps3
  go_wp2_with fail
  refine (HK.out _).mono ?_
  rintro e u1 ⟨rfl, hb⟩
  have B1 := hideIt (below_then B0.out hb)
  have P2 := hideIt (P1.out.keep hb P1.out.lt)
  clear hb HK B0 P1 c0 c1
  go_wp2_with fail
  refine (HX.out _ B1.out).mono ?_
  rintro e u2 ⟨rfl, hb⟩
  have B2 := hideIt (below_then B1.out hb)
  have P3 := hideIt (P2.out.keep hb P2.out.lt)
  clear hb HX B1 P2
  go_wp2_with fail
  refine (HY.out _ B2.out).mono ?_
  rintro e u3 ⟨rfl, hb⟩
  have B3 := hideIt (below_then B2.out hb)
  have P4 := hideIt (P3.out.keep hb P3.out.lt)
  clear hb HY B2 P3
  go_wp2_with fail
  refine (HF1.out _).mono ?_
  rintro e v0 ⟨rfl, hb⟩
  have B4 := hideIt (below_then B3.out hb)
  have P5 := hideIt (P4.out.keep hb P4.out.lt)
  clear hb HF1 B3 P4
  go_wp2_with fail
  refine (HF2.out _).mono ?_
  rintro e v1 ⟨rfl, hb⟩
  have B5 := hideIt (below_then B4.out hb)
  have P6 := hideIt (P5.out.keep hb P5.out.lt)
  clear hb HF2 B4 P5
  go_wp2_with fail
  refine (HF3.out _).mono ?_
  rintro e v2 ⟨rfl, hb⟩
  have B6 := hideIt (below_then B5.out hb)
  have P7 := hideIt (P6.out.keep hb P6.out.lt)
  clear hb HF3 B5 P6
  go_wp2_with fail
  refine (HF4.out _).mono ?_
  rintro e v3 ⟨rfl, hb⟩
  have B7 := hideIt (below_then B6.out hb)
  have P8 := hideIt (P7.out.keep hb P7.out.lt)
  clear hb HF4 B6 P7
  have c0 := P8.out.cell0
  have c1 := P8.out.cell1
  simp only at c0 c1
  go_wp2_with fail
  refine (HP1.out _).mono ?_
  rintro e v4 ⟨rfl, hb⟩
  have B8 := hideIt (below_then B7.out hb)
  clear hb HP1 B7 c0 c1 P8
  go_wp2_with fail
  refine (HP2.out _).mono ?_
  rintro e v5 ⟨rfl, hb⟩
  have B9 := hideIt (below_then B8.out hb)
  clear hb HP2 B8
  go_wp2_with fail
  refine (HP3.out _).mono ?_
  rintro e v6 ⟨rfl, hb⟩
  have B10 := hideIt (below_then B9.out hb)
  clear hb HP3 B9
  go_wp2_with fail
  refine (HS1.out _).mono ?_
  rintro e v7 ⟨rfl, hb⟩
  have B11 := hideIt (below_then B10.out hb)
  clear hb HS1 B10
  go_wp2_with fail
  refine (HS2.out _).mono ?_
  rintro e v8 ⟨rfl, hb⟩
  have B12 := hideIt (below_then B11.out hb)
  clear hb HS2 B11
  go_wp2_with fail
  refine (HS3.out _).mono ?_
  rintro e v9 ⟨rfl, hb⟩
  have B13 := hideIt (below_then B12.out hb)
  clear hb HS3 B12
  go_wp2_with fail
  go_ret
  exact ⟨rfl, B13.out⟩
end Go.Proofs.YtfmkmgnaalkgoaaDoor
