/- CookieParses: the walk. -/
import Derived.Test.YtjfmlfakdijfjaaDoorCookPars
import Derived.Test.YtjfmlfakdijfjaaDoorCookLaid
namespace Go.Proofs.YtjfmlfakdijfjaaDoor
open Go.ChangeShapes Go.WideShapes Go.ChangeAt Go.RowKit
set_option linter.unusedVariables false
set_option linter.unusedSimpArgs false

set_option maxRecDepth 8000 in
set_option maxHeartbeats 4000000 in
theorem cookieParses_walk (a0 : ByteArray) (a1 : Option Addr) (len1 cap1 : Nat) (x1 : List (List UInt8)) (a2 : Option Addr) (len2 cap2 : Nat) (z2 : List Int) (a3 : Option Addr) (len3 cap3 : Nat) (z3 : List Int) (w : World) (w0 : a0.size ≤ maxLen) (w1 : IsTexts w a1 len1 cap1 x1) (w2 : IsRow .u8 w a2 len2 cap2 z2) (w3 : IsRow .u8 w a3 len3 cap3 z3) (hT : Tabs w) (r0 : a0.size ≤ 140737488355328) (r2 : cap2 ≤ 140737488355328) (r3 : cap3 ≤ 140737488355328) :
    Calls Tryd.prog 3 #[.string a0, .slice a1 len1 cap1, .slice a2 len2 cap2, .slice a3 len3 cap3] w fun e w' => e = .returned (.bool true) ∧ Below w.heap.size w w' := by
  obtain ⟨s, rfl, es⟩ := str_is a0
  have zs := strOf_size s
  rw [zs] at r0
  obtain ⟨_, _, hlc2, _⟩ := w2.bytes
  obtain ⟨_, _, hlc3, _⟩ := w3.bytes
  obtain ⟨bs2, hl2, _, hp2⟩ := row_piece w2 (by omega)
  obtain ⟨bs3, hl3, _, hp3⟩ := row_piece w3 (by omega)
  have HT := hideIt hT
  have HW1 := hideIt w1
  have HK := hideIt (fun u (h : Below w.heap.size w u) => known11_any u (HT.out.1.keep h) (HT.out.2.keep h))
  have CX := hideIt (fun u (h : Below w.heap.size w u) => value_any a2 bs2 len2 cap2 u (hp2.keep h) hl2 (by omega))
  have CY := hideIt (fun u (h : Below w.heap.size w u) => value_any a3 bs3 len3 cap3 u (hp3.keep h) hl3 (by omega))
  have HX := hideIt (valueOf_len bs2)
  have HY := hideIt (valueOf_len bs3)
  have hl1 := w1.most
  have hf1 := w1.fits
  clear w0 w1 w2 w3 hT hp2 hp3 hl2 hl3 r2 r3 hlc2 hlc3 es
  generalize valueOf bs2 = x at *
  generalize valueOf bs3 = y at *
  by_cases h300 : 300 < s.length
  · have hgt : (300 : Int) < (s.length : Int) := by omega
    clear h300 CX CY
    go_enter Tryd.func3, Tryd.ntmps3
    go_wp2_with fail
    refine (HK.out _ (Below.refl _ _)).mono ?_
    rintro e u1 ⟨rfl, hb⟩
    have B2 := hideIt hb
    clear hb
    go_wp2_with fail
    go_ret
    exact ⟨rfl, B2.out⟩
  have hng : ¬ (300 : Int) < (s.length : Int) := by omega
  by_cases h10 : 10 < len1
  · have hgt : (10 : Int) < (len1 : Int) := by omega
    clear h10 CX CY
    go_enter Tryd.func3, Tryd.ntmps3
    go_wp2_with fail
    refine (HK.out _ (Below.refl _ _)).mono ?_
    rintro e u1 ⟨rfl, hb⟩
    have B2 := hideIt hb
    clear hb
    go_wp2_with fail
    go_ret
    exact ⟨rfl, B2.out⟩
  have hng2 : ¬ (10 : Int) < (len1 : Int) := by omega
  have CL := hideIt (long_any a1 x1 len1 cap1 w HW1.out.row HW1.out.many (by omega) HW1.out.each)
  by_cases hbig : 400 < sumL x1
  · rw [decide_eq_true hbig] at CL
    clear hbig CX CY
    go_enter Tryd.func3, Tryd.ntmps3
    go_wp2_with fail
    refine CL.out.mono ?_
    rintro e u1 ⟨rfl, hb⟩
    have B1 := hideIt hb
    clear hb CL
    go_wp2_with fail
    refine (HK.out _ B1.out).mono ?_
    rintro e u2 ⟨rfl, hb⟩
    have B2 := hideIt (below_then B1.out hb)
    clear hb
    go_wp2_with fail
    go_ret
    exact ⟨rfl, B2.out⟩
  rw [decide_eq_false hbig] at CL
  have CS := hideIt (fun u (h : Below w.heap.size w u) => parses_any s u (by omega) (HT.out.1.keep h))
  have CPX := hideIt (fun u (h : Below w.heap.size w u) => parses_any x u (by have := HX.out; omega) (HT.out.1.keep h))
  have CPY := hideIt (fun u (h : Below w.heap.size w u) => parses_any ([97, 61, 49, 59, 32] ++ y) u (by have := HY.out; rw [List.length_append]; simp; omega) (HT.out.1.keep h))
  have EY : Hid ((⟨#[97, 61, 49, 59, 32]⟩ : ByteArray) ++ strOf y = strOf ([97, 61, 49, 59, 32] ++ y)) := hideIt (by
    rw [show (⟨#[97, 61, 49, 59, 32]⟩ : ByteArray) = strOf [97, 61, 49, 59, 32] from rfl, strOf_append])
  have CSL := hideIt (fun u (h : Below w.heap.size w u) => session_any a1 x1 len1 cap1 u (HW1.out.row.keep h) HW1.out.many (by omega) (fun p hp => by have := sumL_each hp; omega) (HT.out.1.keep h))
  have CS2 := hideIt (fun u k hk (h : Below w.heap.size w u) => ses_at2 (strOf x) (strOf y) x y rfl rfl (by have := HX.out; omega) (by have := HY.out; omega) u k hk (HT.out.1.keep h))
  have CS1 := hideIt (fun u k hk (h : Below w.heap.size w u) => ses_at1 (strOf x) x rfl (by have := HX.out; omega) u k hk (HT.out.1.keep h))
  have CS3 := hideIt (fun u k hk (h : Below w.heap.size w u) => ses_at2 (⟨#[95, 95, 72, 111, 115, 116, 45, 105, 100, 61, 57]⟩ : ByteArray) (strOf y) [95, 95, 72, 111, 115, 116, 45, 105, 100, 61, 57] y rfl rfl (by simp) (by have := HY.out; omega) u k hk (HT.out.1.keep h))
  have hzy : (strOf y).size ≤ 220 := by rw [strOf_size]; exact HY.out
  clear hbig HX HY h300 h10 HW1 HT
  generalize strOf ([97, 61, 49, 59, 32] ++ y) = s5 at *
  generalize strOf x = sx at *
  generalize strOf y = sy at *
  go_enter Tryd.func3, Tryd.ntmps3
  go_wp2_with fail
  refine CL.out.mono ?_
  rintro e u1 ⟨rfl, hb⟩
  have B1 := hideIt hb
  clear hb CL
  go_wp2_with fail
  refine (HK.out _ B1.out).mono ?_
  rintro e u2 ⟨rfl, hb⟩
  have B2 := hideIt (below_then B1.out hb)
  clear hb HK B1
  go_wp2_with fail
  refine (CX.out _ B2.out).mono ?_
  rintro e u3 ⟨rfl, hb⟩
  have B3 := hideIt (below_then B2.out hb)
  clear hb CX B2
  go_wp2_with fail
  refine (CY.out _ B3.out).mono ?_
  rintro e u4 ⟨rfl, hb⟩
  have B4 := hideIt (below_then B3.out hb)
  clear hb CY B3
  go_wp2_with fail
  refine (CS.out _ B4.out).mono ?_
  rintro e u5 ⟨rfl, hb⟩
  have B5 := hideIt (below_then B4.out hb)
  clear hb CS B4
  go_wp2_with fail
  refine (CPX.out _ B5.out).mono ?_
  rintro e u6 ⟨rfl, hb⟩
  have B6 := hideIt (below_then B5.out hb)
  clear hb CPX B5
  go_wp2_with fail
  rw [EY.out]
  refine (CPY.out _ B6.out).mono ?_
  rintro e u7 ⟨rfl, hb⟩
  have B7 := hideIt (below_then B6.out hb)
  clear hb CPY B6
  go_wp2_with fail
  refine (CSL.out _ B7.out).mono ?_
  rintro e u8 ⟨rfl, hb⟩
  have B8 := hideIt (below_then B7.out hb)
  clear hb CSL B7
  go_wp2_with fail
  refine (CS2.out _ _ rfl B8.out).mono ?_
  rintro e u9 ⟨rfl, hb⟩
  have B9 := hideIt (below_then B8.out hb)
  clear hb CS2 B8
  go_wp2_with fail
  refine (CS1.out _ _ rfl B9.out).mono ?_
  rintro e u10 ⟨rfl, hb⟩
  have B10 := hideIt (below_then B9.out hb)
  clear hb CS1 B9
  go_wp2_with fail
  refine (CS3.out _ _ rfl B10.out).mono ?_
  rintro e u11 ⟨rfl, hb⟩
  have B11 := hideIt (below_then B10.out hb)
  clear hb CS3 B10
  go_wp2_with fail
  go_ret
  exact ⟨rfl, B11.out⟩
end Go.Proofs.YtjfmlfakdijfjaaDoor
