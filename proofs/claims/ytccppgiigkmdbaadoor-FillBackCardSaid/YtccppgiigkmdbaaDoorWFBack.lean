/- The walk of FillBack. -/
import Derived.Test.YtccppgiigkmdbaaDoorFillKnown
import Derived.Test.YtccppgiigkmdbaaDoorFillHeavy
import Derived.Test.YtccppgiigkmdbaaDoorFillFacts
import Derived.Test.YtccppgiigkmdbaaDoorUtfLaid
import Derived.Deep.Cut
import Derived.Handy
namespace Go.Proofs.YtccppgiigkmdbaaDoor
open Go.ChangeShapes Go.WideShapes Go.ChangeAt Go.RowKit
set_option linter.unusedVariables false
set_option linter.unusedSimpArgs false

def isNamed (x : PairL) : Bool := decide (x.1 ≠ [])
theorem bulk_many (ps : List PairL) (h : ∀ x ∈ ps, x.1.length ≤ 140737488355328 ∧ x.2.length ≤ 140737488355328) : bulkP ps ≤ 281474976710657 * ps.length := by
  induction ps with
  | nil => simp [bulkP]
  | cons x r ih =>
    have h1 := h x (by simp)
    have h2 := ih (fun y hy => h y (by simp [hy]))
    have : bulkP (x :: r) = (1 + x.1.length + x.2.length) + bulkP r := by simp [bulkP]
    simp only [List.length_cons]; omega
theorem all_step (ps : List PairL) (j : Nat) (x : PairL) (h : ps[j]? = some x) : (ps.take (j + 1)).all isNamed = ((ps.take j).all isNamed && isNamed x) := by
  rw [List.take_add_one, h]; simp
theorem named_true (ps : List PairL) (h : ps.all isNamed = true) : ∀ x ∈ ps, x.1 ≠ [] := fun x hx => by
  have := List.all_eq_true.1 h x hx
  simpa [isNamed] using this
theorem named_false (ps : List PairL) (h : ps.all isNamed = false) : ∃ x ∈ ps, x.1 = [] := by
  apply Classical.byContradiction
  intro hn
  have : ps.all isNamed = true := List.all_eq_true.2 fun x hx => by
    simp only [isNamed, decide_eq_true_eq]
    exact fun e => hn ⟨x, hx, e⟩
  rw [this] at h; cases h
theorem strOf_none {l : List UInt8} (h : l = []) : (strOf l).toList.isEmpty = true := by rw [strOf_toList, h]; rfl
set_option maxHeartbeats 8000000 in
set_option maxRecDepth 8000 in
theorem fillBack_walk (a0 : ByteArray) (a1 : Option Addr) (len1 cap1 : Nat) (x1 : List PairL) (w : World) (w0 : a0.size ≤ maxLen) (w1 : IsPairs w a1 len1 cap1 x1) (hT : Tabs w) (r0 : a0.size ≤ 140737488355328) :
    Calls Tryd.prog 5 #[.string a0, .slice a1 len1 cap1] w fun e w' => e = .returned (.bool true) ∧ Below w.heap.size w w' := by
  obtain ⟨s, rfl, e1⟩ := str_is a0
  have s1 := strOf_size s
  rw [s1] at r0
  have HK := hideIt known7_any
  clear w0 hT e1
  by_cases h2 : 200 < s.length
  · have h2' : (200 : Int) < (s.length : Int) := by omega
    clear h2 w1
    go_enter Tryd.func5, Tryd.ntmps5
    go_wp2_with fail
    refine (HK.out _).mono ?_
    rintro e w1 ⟨rfl, b1⟩
    go_wp2_with fail
    go_ret
    exact ⟨rfl, b1⟩
  have h2' : ¬ (200 : Int) < (s.length : Int) := by omega
  have HH := hideIt (heavy_any a1 len1 cap1 x1 w w1)
  have hfit := w1.fits
  have hmost := w1.most
  have HM := hideIt w1.many
  have HP := hideIt w1.at_
  have HV := hideIt w1.reads
  have HEa := hideIt w1.each
  clear w1
  have HBK : Hid (len1 ≤ 30 → bulkP x1 ≤ 1152921504606846976) := hideIt fun h => by
    have h1 := bulk_many x1 HEa.out
    have h2 := HM.out
    rw [h2] at h1
    have : 281474976710657 * len1 ≤ 281474976710657 * 30 := Nat.mul_le_mul_left _ h
    omega
  have hel := escapeL_len s
  have HSG := hideIt (escape_signs s)
  have HE := hideIt (fun w => fescape_any s w (by omega))
  have HU : Hid (∀ w, Calls Tryd.prog 21 #[.string (strOf (escapeL s))] w fun e w' => e = .returned (.tuple #[.string (strOf s), .bool true]) ∧ Below w.heap.size w w') := hideIt fun w => by
    have := unescape_any (escapeL s) w (by omega)
    rwa [unesc_escape] at this
  generalize escapeL s = es at *
  have hsz := strOf_size es
  go_enter Tryd.func5, Tryd.ntmps5
  go_wp2_with fail
  refine HH.out.mono ?_
  rintro e w1 ⟨v1, rfl, ⟨⟨bo, rfl, hbo⟩⟩, b1⟩
  have B1 := hideIt b1
  have HBO := hideIt hbo
  clear b1 hbo HH
  cases bo
  · by_cases h30 : 30 < len1
    · have h30' : (30 : Int) < (len1 : Int) := by omega
      go_wp2_with fail
      refine (HK.out _).mono ?_
      rintro e w2 ⟨rfl, b2⟩
      have B2 := hideIt (below_then B1.out b2)
      clear b2
      go_wp2_with fail
      go_ret
      exact ⟨rfl, B2.out⟩
    have h30' : ¬ (30 : Int) < (len1 : Int) := by omega
    have hbulk : bulkP x1 ≤ 400 := by
      have h3 := HBO.out (HBK.out (by omega))
      have := of_decide_eq_false h3.symm
      omega
    have HV1 := hideIt (HV.out.keep B1.out)
    clear HBO HBK HEa
    go_wp2_with fail
    refine (HE.out _).mono ?_
    rintro e w2 ⟨rfl, b2⟩
    have B2 := hideIt (below_then B1.out b2)
    have HV2 := hideIt (HV1.out.keep b2)
    clear b2 HV1 B1 HE
    go_wp2_with fail
    refine (HU.out _).mono ?_
    rintro e w3 ⟨rfl, b3⟩
    have B3 := hideIt (below_then B2.out b3)
    have HV3 := hideIt (HV2.out.keep b3)
    clear b3 HV2 B2 HU
    go_wp2_with fail
    go_loopw [8] (fun i wr => ∃ j : Nat, j ≤ es.length ∧ i = .int .i64 (j : Int) ∧ wr = w3) (fun i _ => es.length - (intOf i).toNat)
    case atStart => exact ⟨0, by omega, rfl, rfl⟩
    case round =>
      obtain ⟨j, hj, rfl, rfl⟩ := hrel
      by_cases hlt : j < es.length
      · have hlt' : (j : Int) < (es.length : Int) := by omega
        have hx : ∀ w, (Instr.index 9 (.string (strOf es)) (.int .i64 (j : Int))).run Tryd.prog w = .ok (.int .u8 ((es[j]).toNat : Int)) w := fun w => run_index_str w es .i64 j hlt
        obtain ⟨g1, g2, g3, g4⟩ := HSG.out es[j] (List.getElem_mem hlt)
        have b1 : (32 : Int) < ((es[j]).toNat : Int) := by omega
        have b2 : ((es[j]).toNat : Int) < 127 := by omega
        have b3 : (((es[j]).toNat : Int) == 38) = false := by rw [beq_eq_false_iff_ne]; omega
        have b4 : (((es[j]).toNat : Int) == 61) = false := by rw [beq_eq_false_iff_ne]; omega
        have hwj : IntKind.i64.wrap ((j : Int) + 1) = (j : Int) + 1 := IntWalk.i64_in _ (by omega)
        clear g1 g2 g3 g4
        generalize (es[j]).toNat = x at *
        go_wp2_with fail
        go_roundw
        case rel => exact ⟨j + 1, by omega, by go_num, trivial⟩
        case measure => simp [intOf]; omega
      · obtain rfl : j = es.length := by omega
        have hlt' : ¬ (es.length : Int) < (es.length : Int) := by omega
        generalize wr = wz at *
        go_wp2_with fail
        go_loopw [9, 10] (fun nv i wr => ∃ j : Nat, j ≤ len1 ∧ i = .int .i64 (j : Int) ∧ nv = .bool ((x1.take j).all isNamed) ∧ wr = wz) (fun _ i _ => len1 - (intOf i).toNat)
        case atStart => exact ⟨0, by omega, rfl, rfl, rfl⟩
        case round =>
          obtain ⟨k, hk, rfl, rfl, rfl⟩ := hrel
          have hwk : IntKind.i64.wrap ((k : Int) + 1) = (k : Int) + 1 := IntWalk.i64_in _ (by omega)
          by_cases hlk : k < len1
          · have hlk' : (k : Int) < (len1 : Int) := by omega
            obtain ⟨x, hx⟩ : ∃ x, x1[k]? = some x := ⟨_, List.getElem?_eq_getElem (by have := HM.out; omega)⟩
            obtain ⟨A', c', ev, _, _, _, hpa⟩ := HV3.out.form
            obtain ⟨b, off, rfl, lb, kb⟩ := hpa (by have := HM.out; omega)
            cases ev
            obtain ⟨c1, c2⟩ := kb k x hx
            rw [show off + 2 * k = off + k * 2 by omega] at c1 c2
            have HS := hideIt (all_step x1 k x hx)
            clear kb hx lb c2 hpa
            cases hal : (x1.take k).all isNamed
            · rw [hal, Bool.false_and] at HS
              clear hal c1
              go_wp2_with fail
              go_roundw
              case rel => exact ⟨k + 1, by omega, by go_num, by rw [HS.out], trivial⟩
              case measure => simp [intOf]; omega
            · rw [hal, Bool.true_and] at HS
              clear hal
              by_cases hnm : x.1 = []
              · have hq := strOf_none hnm
                have hv : isNamed x = false := by simp [isNamed, hnm]
                rw [hv] at HS
                clear hnm hv
                go_wp2_with fail
                go_roundw
                case rel => exact ⟨k + 1, by omega, by go_num, by rw [HS.out], trivial⟩
                case measure => simp [intOf]; omega
              · have hq := strOf_some hnm
                have hv : isNamed x = true := by simp [isNamed, hnm]
                rw [hv] at HS
                clear hnm hv
                go_wp2_with fail
                go_roundw
                case rel => exact ⟨k + 1, by omega, by go_num, by rw [HS.out], trivial⟩
                case measure => simp [intOf]; omega
          · obtain rfl : k = len1 := by omega
            have hlk' : ¬ (k : Int) < (k : Int) := by omega
            rw [List.take_of_length_le (show x1.length ≤ k by have := HM.out; omega)]
            generalize wr = wy at *
            obtain ⟨A', c', ev, q1, q2, q3, q4⟩ := HV3.out.form
            have HPr := hideIt (fprint_any A' _ c' x1 wy q4 rfl (by omega) q1 q2)
            rw [← ev] at HPr
            have hlen := print_len x1
            clear ev q1 q2 q3 q4
            have HM30 : Hid (x1.length ≤ 30) := hideIt (by have := HM.out; omega)
            have HPR : Hid (∀ v W, BOwn wy.heap.size v (printL x1) W → Calls Tryd.prog 22 #[v] W fun e w' => ∃ u, e = .returned (.tuple #[u, .int .u16 ((parseL (printL x1)).2 : Int)]) ∧ PairsV u (parseL (printL x1)).1 w' ∧ Below W.heap.size W w') := hideIt fun v W hv => by
              obtain ⟨A5, c5, rfl, _, hp5⟩ := own_pieceAny hv (by omega)
              refine (fparse_any A5 (printL x1) _ c5 W hp5 rfl (by omega)).mono ?_
              rintro e w' ⟨u, h1, h2, h3⟩
              exact ⟨u, h1, h2.reads, h3⟩
            cases hal : x1.all isNamed
            · have hp := parse_unnamed x1 (named_false x1 hal) HM30.out
              rw [hp] at HPR
              clear hal hp
              go_wp2_with fail
              refine HPr.out.mono ?_
              rintro e w4 ⟨v4, rfl, o4, b4⟩
              have H4 := hideIt (HPR.out v4 w4 o4)
              have B4 := hideIt (below_then B3.out b4)
              clear o4 b4 HPr
              go_wp2_with fail
              refine H4.out.mono ?_
              rintro e w5 ⟨v5, rfl, o5, b5⟩
              have B5 := hideIt (below_then B4.out b5)
              clear o5 b5 H4
              go_wp2_with fail
              refine (HK.out _).mono ?_
              rintro e w6 ⟨rfl, b6⟩
              have B6 := hideIt (below_then B5.out b6)
              clear b6
              go_wp2_with fail
              go_ret
              exact ⟨rfl, B6.out⟩
            · have hp := parse_print x1 (named_true x1 hal) HM30.out
              rw [hp] at HPR
              clear hal hp
              go_wp2_with fail
              refine HPr.out.mono ?_
              rintro e w4 ⟨v4, rfl, o4, b4⟩
              have H4 := hideIt (HPR.out v4 w4 o4)
              have B4 := hideIt (below_then B3.out b4)
              have HV4 := hideIt (HV3.out.keep b4)
              clear o4 b4 HPr
              go_wp2_with fail
              refine H4.out.mono ?_
              rintro e w5 ⟨v5, rfl, o5, b5⟩
              have B5 := hideIt (below_then B4.out b5)
              have O5 := hideIt o5
              have HV5 := hideIt (HV4.out.keep b5)
              clear o5 b5 H4 HV4
              go_wp2_with fail
              refine (HK.out _).mono ?_
              rintro e w6 ⟨rfl, b6⟩
              have B6 := hideIt (below_then B5.out b6)
              have HS6 := hideIt (refsame_any _ v5 x1 x1 w6 (HV5.out.keep b6) (O5.out.keep b6) (by have := HM30.out; omega))
              rw [decide_eq_true rfl] at HS6
              clear b6
              go_wp2_with fail
              refine HS6.out.mono ?_
              rintro e w7 ⟨rfl, b7⟩
              have B7 := hideIt (below_then B6.out b7)
              clear b7
              go_wp2_with fail
              go_ret
              exact ⟨rfl, B7.out⟩
  · go_wp2_with fail
    refine (HK.out _).mono ?_
    rintro e w2 ⟨rfl, b2⟩
    have B2 := hideIt (below_then B1.out b2)
    clear b2
    go_wp2_with fail
    go_ret
    exact ⟨rfl, B2.out⟩
end Go.Proofs.YtccppgiigkmdbaaDoor
