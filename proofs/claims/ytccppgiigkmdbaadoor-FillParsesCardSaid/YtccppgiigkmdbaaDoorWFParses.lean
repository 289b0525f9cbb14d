/- The walk of FillParses. -/
import Derived.Test.YtccppgiigkmdbaaDoorFillKnown
import Derived.Test.YtccppgiigkmdbaaDoorFillRaw
import Derived.Test.YtccppgiigkmdbaaDoorPickText
import Derived.Test.YtccppgiigkmdbaaDoorRefFillParse
import Derived.Test.YtccppgiigkmdbaaDoorRefSame
import Derived.Test.YtccppgiigkmdbaaDoorUtfLaid
import Derived.Deep.Cut
import Derived.Handy
namespace Go.Proofs.YtccppgiigkmdbaaDoor
open Go.ChangeShapes Go.WideShapes Go.ChangeAt Go.RowKit
set_option linter.unusedVariables false
set_option linter.unusedSimpArgs false

theorem parse_err (bs : List UInt8) : (parseL bs).2 ≤ 10 ∧ (parseL bs).1.length ≤ 30 := by
  unfold parseL
  split
  · simp
  · split
    · simp
    · split
      · simp
      · rename_i h
        have := pieces_len h
        simp; omega
set_option maxHeartbeats 4000000 in
theorem parses_any (A : Option Addr) (bs : List UInt8) (n c : Nat) (w : World) (hp : PieceOk w ⟨A, c, bs⟩) (hn : bs.length = n) (hl : n ≤ 100000) :
    Calls Tryd.prog 12 #[.slice A n c] w fun e w' => e = .returned (.bool true) ∧ Below w.heap.size w w' := by
  have H1 := hideIt (fparse_any A bs n c w hp hn hl)
  have H2 := hideIt (fun w' (hb : Below w.heap.size w w') => refparse_any A bs n c w' (hp.keep hb) hn hl)
  obtain ⟨he, hpl⟩ := parse_err bs
  clear hp hn
  generalize (parseL bs).1 = ps at *
  generalize (parseL bs).2 = er at *
  have hwe : IntKind.i64.wrap (er : Int) = (er : Int) := IntWalk.i64_in _ (by omega)
  go_enter Tryd.func12, Tryd.ntmps12
  go_wp2_with fail
  refine H1.out.mono ?_
  rintro e w1 ⟨v1, rfl, ho1, hb1⟩
  have O1 := hideIt ho1.reads
  have B1 := hideIt hb1
  clear ho1 hb1
  go_wp2_with fail
  refine (H2.out w1 B1.out).mono ?_
  rintro e w2 ⟨v2, rfl, ho2, hb2⟩
  have O2 := hideIt ho2.reads
  have O1b := hideIt (O1.out.keep hb2)
  have B2 := hideIt (below_then B1.out hb2)
  have HS := hideIt (refsame_any v1 v2 ps ps w2 O1b.out O2.out (by omega))
  rw [decide_eq_true rfl] at HS
  clear ho2 hb2 O1 B1 H1 H2
  go_wp2_with fail
  refine HS.out.mono ?_
  rintro e w3 ⟨rfl, hb3⟩
  have B3 := hideIt (below_then B2.out hb3)
  clear hb3
  go_wp2_with fail
  go_ret
  exact ⟨rfl, B3.out⟩
theorem go_parses : goFn Tryd.prog 12 = true := by kernel_rfl
set_option maxHeartbeats 4000000 in
theorem texts_any (l : List UInt8) (w : World) (hl : l.length ≤ 100000) :
    Calls Tryd.prog 13 #[.string (strOf l)] w fun e w' => e = .returned (.bool true) ∧ Below w.heap.size w w' := by
  have H1 := hideIt (fun w => unescape_any l w (by omega))
  have H2 := hideIt (fun w => refunesc_any l w hl)
  have H3 := hideIt (fun w => fescape_any l w (by omega))
  have H4 := hideIt (fun w => refesc_any l w hl)
  generalize strOf ((unescL l).getD []) = s1 at *
  generalize (unescL l).isSome = b1 at *
  generalize strOf (escapeL l) = s2 at *
  go_enter Tryd.func13, Tryd.ntmps13
  go_wp2_with fail
  refine (H1.out _).mono ?_
  rintro e w1 ⟨rfl, b1⟩
  go_wp2_with fail
  refine (H2.out _).mono ?_
  rintro e w2 ⟨rfl, b2⟩
  have B2 := hideIt (below_then b1 b2)
  clear b1 b2 H1 H2
  go_wp2_with fail
  refine (H3.out _).mono ?_
  rintro e w3 ⟨rfl, b3⟩
  have B3 := hideIt (below_then B2.out b3)
  clear b3
  go_wp2_with fail
  refine (H4.out _).mono ?_
  rintro e w4 ⟨rfl, b4⟩
  have B4 := hideIt (below_then B3.out b4)
  clear b4
  go_wp2_with fail
  go_ret
  exact ⟨rfl, B4.out⟩
theorem go_texts : goFn Tryd.prog 13 = true := by kernel_rfl
set_option maxHeartbeats 4000000 in
set_option maxRecDepth 8000 in
theorem fillParses_walk (a0 : Option Addr) (len0 cap0 : Nat) (z0 : List Int) (a1 : ByteArray) (a2 : Option Addr) (len2 cap2 : Nat) (z2 : List Int) (w : World) (w0 : IsRow .u8 w a0 len0 cap0 z0) (w1 : a1.size ≤ maxLen) (w2 : IsRow .u8 w a2 len2 cap2 z2) (hT : Tabs w) (r0 : cap0 ≤ 140737488355328) (r1 : a1.size ≤ 140737488355328) (r2 : cap2 ≤ 140737488355328) :
    Calls Tryd.prog 3 #[.slice a0 len0 cap0, .string a1, .slice a2 len2 cap2] w fun e w' => e = .returned (.bool true) ∧ Below w.heap.size w w' := by
  obtain ⟨_, _, hlc0, _⟩ := w0.bytes
  obtain ⟨bs0, hl0, _, hp0⟩ := row_piece w0 (by omega)
  obtain ⟨_, _, hlc2, _⟩ := w2.bytes
  obtain ⟨bs2, hl2, _, hp2⟩ := row_piece w2 (by omega)
  obtain ⟨s, rfl, e1⟩ := str_is a1
  have s1 := strOf_size s
  rw [s1] at r1
  have hw1 : IntKind.i64.wrap ((len0 : Int) + (s.length : Int)) = (len0 : Int) + (s.length : Int) := IntWalk.i64_in _ (by omega)
  have HK := hideIt known7_any
  clear w0 w1 w2 hT e1
  by_cases h5 : 500 < len0 + s.length
  · have h5' : (500 : Int) < (len0 : Int) + (s.length : Int) := by omega
    clear h5 hp0 hp2 hl0 hl2
    go_enter Tryd.func3, Tryd.ntmps3
    go_wp2_with fail
    refine (HK.out _).mono ?_
    rintro e w1 ⟨rfl, b1⟩
    go_wp2_with fail
    go_ret
    exact ⟨rfl, b1⟩
  have h5' : ¬ (500 : Int) < (len0 : Int) + (s.length : Int) := by omega
  have HP := hideIt (fun w' (hb : Below w.heap.size w w') => parses_any a0 bs0 len0 cap0 w' (hp0.keep hb) hl0 (by omega))
  have HR := hideIt (fun w' (hb : Below w.heap.size w w') => raw_any a2 bs2 len2 cap2 w' (hp2.keep hb) hl2 (by omega))
  have HX := hideIt (fun w' (hb : Below w.heap.size w w') => pick_any a2 bs2 len2 cap2 w' (hp2.keep hb) hl2 (by omega))
  have hrl := rawL_len bs2
  have htl := textL_len bs2
  clear h5 hp0 hp2 hl0 hl2
  generalize rawL bs2 = r at *
  generalize textL bs2 = t at *
  have HT1 := hideIt (fun w => texts_any s w (by omega))
  have HT2 := hideIt (fun w => texts_any r w (by omega))
  have HT3 := hideIt (fun w => texts_any t w (by omega))
  go_enter Tryd.func3, Tryd.ntmps3
  go_wp2_with fail
  refine (HK.out _).mono ?_
  rintro e w1 ⟨rfl, b1⟩
  have B1 := hideIt b1
  clear b1
  go_wp2_with fail
  refine (HR.out w1 B1.out).mono ?_
  rintro e w2 ⟨A2, c2, rfl, p2, b2⟩
  have B2 := hideIt (below_then B1.out b2)
  have P2 := hideIt p2
  clear b2 p2 B1 HR
  go_wp2_with fail
  refine (HP.out w2 B2.out).mono ?_
  rintro e w3 ⟨rfl, b3⟩
  have B3 := hideIt (below_then B2.out b3)
  have P3 := hideIt (P2.out.keep b3)
  have H3 := hideIt (parses_any A2 r _ c2 w3 P3.out rfl (by omega))
  clear b3 P2 B2 HP
  go_wp2_with fail
  refine H3.out.mono ?_
  rintro e w4 ⟨rfl, b4⟩
  have B4 := hideIt (below_then B3.out b4)
  have P4 := hideIt (P3.out.keep b4)
  clear b4 P3 B3 H3
  go_wp2_with fail
  refine (HT1.out _).mono ?_
  rintro e w5 ⟨rfl, b5⟩
  have B5 := hideIt (below_then B4.out b5)
  have p5 := P4.out.keep b5
  have hcv : (convert 22 9 (.slice A2 r.length c2)).run Tryd.prog w5 = .ok (.string (strOf r)) w5 := conv_bytes A2 r _ c2 _ w5 p5.bytes rfl
  clear b5 P4 B4 p5
  go_wp2_with fail
  refine (HT2.out _).mono ?_
  rintro e w6 ⟨rfl, b6⟩
  have B6 := hideIt (below_then B5.out b6)
  clear b6 B5 hcv
  go_wp2_with fail
  refine (HX.out w6 B6.out).mono ?_
  rintro e w7 ⟨rfl, b7⟩
  have B7 := hideIt (below_then B6.out b7)
  clear b7 B6 HX
  go_wp2_with fail
  refine (HT3.out _).mono ?_
  rintro e w8 ⟨rfl, b8⟩
  have B8 := hideIt (below_then B7.out b8)
  clear b8 B7
  go_wp2_with fail
  go_ret
  exact ⟨rfl, B8.out⟩
end Go.Proofs.YtccppgiigkmdbaaDoor
