/- The contracts of the reference's Print and Get. -/
import Derived.Test.YtccppgiigkmdbaaDoorRefFillEsc
import Derived.Test.YtccppgiigkmdbaaDoorPairMem
import Derived.Test.YtccppgiigkmdbaaDoorFillPrint
import Derived.Test.YtccppgiigkmdbaaDoorFillGet
import Derived.Test.YtccppgiigkmdbaaDoorStrBytes
import Derived.Deep.Cut
import Derived.Handy
namespace Go.Proofs.YtccppgiigkmdbaaDoor
open Go.ChangeShapes Go.WideShapes Go.ChangeAt Go.RowKit
set_option linter.unusedVariables false
set_option linter.unusedSimpArgs false

set_option maxRecDepth 8000 in
set_option maxHeartbeats 4000000 in
theorem refprint_any (A : Option Addr) (n c : Nat) (ps : List PairL) (w : World) (hp : PairsAt w A ps) (hn : ps.length = n) (hB : bulkP ps ≤ 100000) (hnc : n ≤ c) (hcc : c ≤ 9223372036854775807) :
    Calls Tryd.prog 18 #[.slice A n c] w fun e w' => ∃ A' c', e = .returned (.slice A' (printL ps).length c') ∧ PieceOk w' ⟨A', c', printL ps⟩ ∧ Below w.heap.size w w' := by
  have HP := hideIt hp
  have hl : n ≤ 100000 := by have := bulk_len ps; omega
  have HM := hideIt hn
  clear hp hn
  go_enter Tryd.func18, Tryd.ntmps18
  go_wp2
  go_loopw [3, 4] (fun s i wr => ∃ j : Nat, j ≤ n ∧ i = .int .i64 (j : Int) ∧ s = .string (strOf (printL (ps.take j))) ∧ Below w.heap.size w wr) (fun _ i _ => n - (intOf i).toNat)
  case atStart => exact ⟨0, by omega, rfl, rfl, Below.refl _ _⟩
  case round =>
    obtain ⟨j, hj, rfl, rfl, hb⟩ := hrel
    have HB := hideIt hb
    clear hb
    have hwj : IntKind.i64.wrap ((j : Int) + 1) = (j : Int) + 1 := IntWalk.i64_in _ (by omega)
    by_cases hlt : j < n
    · have hlt' : (j : Int) < (n : Int) := by omega
      have hjn := hlt
      obtain ⟨x, hx⟩ : ∃ x, ps[j]? = some x := ⟨_, List.getElem?_eq_getElem (by have := HM.out; omega)⟩
      have hbx := bulk_mem ps x (List.mem_iff_getElem?.2 ⟨j, hx⟩)
      have hbj := bulk_le ps j
      have hpl := print_len (ps.take j)
      have HNX : Hid (printL (ps.take (j + 1)) = if j = 0 then escapeL x.1 ++ [61] ++ escapeL x.2 else printL (ps.take j) ++ [38] ++ escapeL x.1 ++ [61] ++ escapeL x.2) := hideIt (by
        rw [List.take_add_one, hx]
        split
        · rename_i h0
          subst h0
          show printL [x] = _
          rw [print_one, pairT]; simp
        · rename_i h0
          exact print_snoc _ x (by intro h; have := congrArg List.length h; rw [List.length_take, List.length_nil] at this; have := HM.out; omega))
      obtain ⟨p1, p2⟩ := x
      simp only at hbx HNX
      have l1 := escapeL_len p1
      have l2 := escapeL_len p2
      obtain ⟨b, off, rfl, lb, kb⟩ := (HP.out.keep HB.out) (by have := HM.out; omega)
      obtain ⟨c1, c2⟩ := kb j _ hx
      rw [show off + 2 * j = off + j * 2 by omega] at c1 c2
      have HC1 := hideIt c1
      have HC2 := hideIt c2
      have HLB := hideIt lb
      have HLN : Hid ((printL (ps.take j)).length ≤ 300000 ∧ (escapeL p1).length ≤ 300000 ∧ (escapeL p2).length ≤ 300000) := hideIt ⟨by omega, by omega, by omega⟩
      clear kb hx lb c1 c2
      have HA0 : Hid (j = 0 → printL (ps.take j) = []) := hideIt fun h => by rw [h]; rfl
      generalize printL (ps.take j) = acc at *
      have zA : (strOf acc).size ≤ 300000 := by rw [strOf_size]; exact HLN.out.1
      by_cases h0 : j = 0
      · rw [if_pos h0] at HNX
        have hj0 : ¬ (0 : Int) < (j : Int) := by omega
        obtain ⟨nxt, hnx⟩ : ∃ nxt, acc ++ escapeL p1 ++ [61] ++ escapeL p2 = nxt := ⟨_, rfl⟩
        have EX := hideIt hnx
        have HNX : Hid (printL (ps.take (j + 1)) = nxt) := hideIt (by rw [HNX.out, ← hnx, HA0.out h0]; rfl)
        clear hnx h0
        go_upto_region 7 with fail
        refine region_inv [Fact.str (acc), Fact.is (.slice (some ⟨b, off, none⟩) n c), Fact.is (.int .i64 ((j : Nat) : Int)), Fact.is (.pointer (some ⟨b, off + j * 2, none⟩)), Fact.is (.pointer (some ⟨b, off + j * 2, none⟩)), Fact.str (p1), Fact.str (escapeL p1), Fact.str (acc ++ escapeL p1), Fact.str (acc ++ escapeL p1 ++ [61]), Fact.is (.slice (some ⟨b, off, none⟩) n c), Fact.is (.int .i64 ((j : Nat) : Int)), Fact.is (.pointer (some ⟨b, off + j * 2, none⟩)), Fact.is (.pointer (some ⟨b, off + j * 2 + 1, none⟩)), Fact.str (p2), Fact.str (escapeL p2), Fact.str (nxt), Fact.str (nxt)] (by kernel_rfl) (by kernel_rfl) ⟨fun a w1 m => ?_, fun a w1 m => ?_, fun a w1 m => ?_, fun a w1 m => ?_, fun a w1 m => ?_, fun a w1 m => ?_, fun a w1 m => ?_, fun a w1 m => ?_, fun a w1 m => ?_, fun a w1 m => ?_, fun a w1 m => ?_, fun a w1 m => ?_, fun a w1 m => ?_, fun a w1 m => ?_, fun a w1 m => ?_, fun a w1 m => ?_, fun a w1 m => ?_, trivial⟩ ?_
        · exact ok_move (wanted_none rfl) (.tmp 3) rfl (m.old 3 rfl)
        · exact ok_move (wanted_none rfl) (.tmp 0) rfl (m.old 0 rfl)
        · exact ok_move (wanted_none rfl) (.tmp 4) rfl (m.old 4 rfl)
        · exact ok_indexP (wanted_none rfl) (.tmp 16) (.tmp 17) rfl b off n c j (m.has 1 16 rfl rfl) (m.has 2 17 rfl rfl) hjn
        · exact ok_field0 (wanted_none rfl) (.tmp 18) rfl _ _ (m.has 3 18 rfl rfl)
        · exact ok_loadS (wanted_none rfl) (.tmp 19) rfl _ _ (m.has 4 19 rfl rfl) ((m.grew.cell (p := ⟨b, off + j * 2, none⟩) HLB.out).trans HC1.out)
        · exact ok_fn (wanted_none rfl) _ _ _ rfl _ (map1 (m.has 5 20 rfl rfl)) go_refesc (refesc_any p1 w1 (by omega)) (fun e w' ⟨h1, h2⟩ => ⟨_, h1, rfl, h2⟩)
        · exact ok_strcat (wanted_none rfl) (.tmp 15) (.tmp 21) _ rfl _ _ _ (m.has 0 15 rfl rfl) (m.has 6 21 rfl rfl) (by have := HLN.out; simp; omega) (rfl)
        · exact ok_strcat (wanted_none rfl) (.tmp 22) _ _ rfl _ _ _ (m.has 7 22 rfl rfl) (rfl) (by have := HLN.out; simp; omega) (rfl)
        · exact ok_move (wanted_none rfl) (.tmp 0) rfl (m.old 0 rfl)
        · exact ok_move (wanted_none rfl) (.tmp 4) rfl (m.old 4 rfl)
        · exact ok_indexP (wanted_none rfl) (.tmp 24) (.tmp 25) rfl b off n c j (m.has 9 24 rfl rfl) (m.has 10 25 rfl rfl) hjn
        · exact ok_field1 (wanted_none rfl) (.tmp 26) rfl _ _ (m.has 11 26 rfl rfl)
        · exact ok_loadS (wanted_none rfl) (.tmp 27) rfl _ _ (m.has 12 27 rfl rfl) ((m.grew.cell (p := ⟨b, off + j * 2 + 1, none⟩) HLB.out).trans HC2.out)
        · exact ok_fn (wanted_none rfl) _ _ _ rfl _ (map1 (m.has 13 28 rfl rfl)) go_refesc (refesc_any p2 w1 (by omega)) (fun e w' ⟨h1, h2⟩ => ⟨_, h1, rfl, h2⟩)
        · exact ok_strcat (wanted_none rfl) (.tmp 23) (.tmp 29) _ rfl _ _ _ (m.has 8 23 rfl rfl) (m.has 14 29 rfl rfl) (by have := HLN.out; simp; omega) (EX.out)
        · exact ok_assign (wanted_none rfl) (.tmp 30) rfl (m.has 15 30 rfl rfl)
        intro f w9 hg hf
        have e16 : f 16 = .string (strOf nxt) := hf 16 (by decide)
        have B9 := hideIt (below_then HB.out hg)
        clear hf hg
        simp only [List.take, List.drop, putAll, Act.put, List.setIfInBounds_toArray, List.set_cons_succ, List.set_cons_zero]
        rw [e16]
        clear e16
        go_wp2_with fail
        go_roundw
        case rel => exact ⟨j + 1, by omega, by go_num, by rw [HNX.out], B9.out⟩
        case measure => simp [intOf]; omega
      · rw [if_neg h0] at HNX
        have hj0 : (0 : Int) < (j : Int) := by omega
        have EA : Hid (strOf acc ++ ⟨#[38]⟩ = strOf (acc ++ [38])) := hideIt (by rw [show (⟨#[38]⟩ : ByteArray) = strOf [38] from rfl, strOf_append])
        obtain ⟨nxt, hnx⟩ : ∃ nxt, acc ++ [38] ++ escapeL p1 ++ [61] ++ escapeL p2 = nxt := ⟨_, rfl⟩
        have EX := hideIt hnx
        have HNX : Hid (printL (ps.take (j + 1)) = nxt) := hideIt (by rw [HNX.out, ← hnx])
        clear hnx h0
        go_upto_region 7 with fail
        rw [EA.out]
        clear EA
        refine region_inv [Fact.str (acc ++ [38]), Fact.is (.slice (some ⟨b, off, none⟩) n c), Fact.is (.int .i64 ((j : Nat) : Int)), Fact.is (.pointer (some ⟨b, off + j * 2, none⟩)), Fact.is (.pointer (some ⟨b, off + j * 2, none⟩)), Fact.str (p1), Fact.str (escapeL p1), Fact.str (acc ++ [38] ++ escapeL p1), Fact.str (acc ++ [38] ++ escapeL p1 ++ [61]), Fact.is (.slice (some ⟨b, off, none⟩) n c), Fact.is (.int .i64 ((j : Nat) : Int)), Fact.is (.pointer (some ⟨b, off + j * 2, none⟩)), Fact.is (.pointer (some ⟨b, off + j * 2 + 1, none⟩)), Fact.str (p2), Fact.str (escapeL p2), Fact.str (nxt), Fact.str (nxt)] (by kernel_rfl) (by kernel_rfl) ⟨fun a w1 m => ?_, fun a w1 m => ?_, fun a w1 m => ?_, fun a w1 m => ?_, fun a w1 m => ?_, fun a w1 m => ?_, fun a w1 m => ?_, fun a w1 m => ?_, fun a w1 m => ?_, fun a w1 m => ?_, fun a w1 m => ?_, fun a w1 m => ?_, fun a w1 m => ?_, fun a w1 m => ?_, fun a w1 m => ?_, fun a w1 m => ?_, fun a w1 m => ?_, trivial⟩ ?_
        · exact ok_move (wanted_none rfl) (.tmp 3) rfl (m.old 3 rfl)
        · exact ok_move (wanted_none rfl) (.tmp 0) rfl (m.old 0 rfl)
        · exact ok_move (wanted_none rfl) (.tmp 4) rfl (m.old 4 rfl)
        · exact ok_indexP (wanted_none rfl) (.tmp 16) (.tmp 17) rfl b off n c j (m.has 1 16 rfl rfl) (m.has 2 17 rfl rfl) hjn
        · exact ok_field0 (wanted_none rfl) (.tmp 18) rfl _ _ (m.has 3 18 rfl rfl)
        · exact ok_loadS (wanted_none rfl) (.tmp 19) rfl _ _ (m.has 4 19 rfl rfl) ((m.grew.cell (p := ⟨b, off + j * 2, none⟩) HLB.out).trans HC1.out)
        · exact ok_fn (wanted_none rfl) _ _ _ rfl _ (map1 (m.has 5 20 rfl rfl)) go_refesc (refesc_any p1 w1 (by omega)) (fun e w' ⟨h1, h2⟩ => ⟨_, h1, rfl, h2⟩)
        · exact ok_strcat (wanted_none rfl) (.tmp 15) (.tmp 21) _ rfl _ _ _ (m.has 0 15 rfl rfl) (m.has 6 21 rfl rfl) (by have := HLN.out; simp; omega) (rfl)
        · exact ok_strcat (wanted_none rfl) (.tmp 22) _ _ rfl _ _ _ (m.has 7 22 rfl rfl) (rfl) (by have := HLN.out; simp; omega) (rfl)
        · exact ok_move (wanted_none rfl) (.tmp 0) rfl (m.old 0 rfl)
        · exact ok_move (wanted_none rfl) (.tmp 4) rfl (m.old 4 rfl)
        · exact ok_indexP (wanted_none rfl) (.tmp 24) (.tmp 25) rfl b off n c j (m.has 9 24 rfl rfl) (m.has 10 25 rfl rfl) hjn
        · exact ok_field1 (wanted_none rfl) (.tmp 26) rfl _ _ (m.has 11 26 rfl rfl)
        · exact ok_loadS (wanted_none rfl) (.tmp 27) rfl _ _ (m.has 12 27 rfl rfl) ((m.grew.cell (p := ⟨b, off + j * 2 + 1, none⟩) HLB.out).trans HC2.out)
        · exact ok_fn (wanted_none rfl) _ _ _ rfl _ (map1 (m.has 13 28 rfl rfl)) go_refesc (refesc_any p2 w1 (by omega)) (fun e w' ⟨h1, h2⟩ => ⟨_, h1, rfl, h2⟩)
        · exact ok_strcat (wanted_none rfl) (.tmp 23) (.tmp 29) _ rfl _ _ _ (m.has 8 23 rfl rfl) (m.has 14 29 rfl rfl) (by have := HLN.out; simp; omega) (EX.out)
        · exact ok_assign (wanted_none rfl) (.tmp 30) rfl (m.has 15 30 rfl rfl)
        intro f w9 hg hf
        have e16 : f 16 = .string (strOf nxt) := hf 16 (by decide)
        have B9 := hideIt (below_then HB.out hg)
        clear hf hg
        simp only [List.take, List.drop, putAll, Act.put, List.setIfInBounds_toArray, List.set_cons_succ, List.set_cons_zero]
        rw [e16]
        clear e16
        go_wp2_with fail
        go_roundw
        case rel => exact ⟨j + 1, by omega, by go_num, by rw [HNX.out], B9.out⟩
        case measure => simp [intOf]; omega
    · obtain rfl : j = n := by omega
      have hlt' : ¬ (j : Int) < (j : Int) := by omega
      rw [List.take_of_length_le (show ps.length ≤ j by have := HM.out; omega)]
      have hpl := print_len ps
      obtain ⟨c5, w5, hcv, hp5, hb5⟩ := conv_str wr (printL ps) (by omega)
      have HP5 := hideIt hp5
      have HB5 := hideIt (below_then HB.out hb5)
      clear hp5 hb5
      generalize hL : (printL ps).length = L at *
      go_wp2_with fail
      go_ret
      exact ⟨_, c5, rfl, HP5.out, HB5.out⟩
theorem go_refprint : goFn Tryd.prog 18 = true := by kernel_rfl
set_option maxRecDepth 8000 in
set_option maxHeartbeats 2000000 in
theorem refget_any (A : Option Addr) (n c : Nat) (ps : List PairL) (name : List UInt8) (w : World) (hp : PairsAt w A ps) (hn : ps.length = n) (hl : n ≤ 1000000) (hnc : n ≤ c) (hcc : c ≤ 9223372036854775807) :
    Calls Tryd.prog 28 #[.slice A n c, .string (strOf name)] w fun e w' => e = .returned (.tuple #[.string (strOf ((getL ps name).getD [])), .bool (getL ps name).isSome]) ∧ Below w.heap.size w w' := by
  have HP := hideIt hp
  have HG := hideIt (get_is ps name)
  clear hp
  subst hn
  go_enter Tryd.func28, Tryd.ntmps28
  go_wp2
  go_loopw [6, 7, 8] (fun t v i wr => ∃ j : Nat, j ≤ ps.length ∧ i = .int .i64 j ∧ t = .int .i64 ((named ps name j).length : Int) ∧ v = .string (strOf (lastV (named ps name j))) ∧ wr = w) (fun t v i wr => ps.length - (intOf i).toNat)
  case atStart => exact ⟨0, by omega, rfl, rfl, rfl, rfl⟩
  case round =>
    obtain ⟨j, hj, rfl, rfl, rfl, rfl⟩ := hrel
    have hnl := named_le ps name j
    have hwj : IntKind.i64.wrap ((j : Int) + 1) = (j : Int) + 1 := IntWalk.i64_in _ (by omega)
    by_cases hlt : j < ps.length
    · have hji : (j : Int) < (ps.length : Int) := by omega
      obtain ⟨x, hx⟩ : ∃ x, ps[j]? = some x := ⟨_, List.getElem?_eq_getElem hlt⟩
      obtain ⟨b, off, rfl, hlt2, hc⟩ := HP.out (by omega)
      obtain ⟨c1, c2⟩ := hc j x hx
      have HX := hideIt (named_succ ps name j x hx)
      clear hc hx hlt2
      rw [show off + 2 * j = off + j * 2 by omega] at c1 c2
      have hwn : IntKind.i64.wrap (((named ps name j).length : Int) + 1) = ((named ps name j).length : Int) + 1 := IntWalk.i64_in _ (by omega)
      by_cases he : x.1 = name
      · rw [if_pos he] at HX
        have hs : (strOf x.1).toList = (strOf name).toList := by rw [he]
        have E1 : Hid (((named ps name j).length : Int) + 1 = ((named ps name (j + 1)).length : Int)) := hideIt (by rw [HX.out, List.length_append]; simp)
        have E2 : Hid (x.2 = lastV (named ps name (j + 1))) := hideIt (by rw [HX.out, lastV_one])
        clear he
        go_wp2_with fail
        go_roundw
        case rel => exact ⟨j + 1, by omega, by go_num, by rw [← E1.out], by rw [← E2.out], trivial⟩
        case measure => simp [intOf]; omega
      · rw [if_neg he, List.append_nil] at HX
        have hne : ((strOf x.1).toList == (strOf name).toList) = false := str_ne he
        clear he
        go_wp2_with fail
        go_roundw
        case rel => exact ⟨j + 1, by omega, by go_num, by rw [HX.out], by rw [HX.out], trivial⟩
        case measure => simp [intOf]; omega
    · obtain rfl : j = ps.length := by omega
      have hlt' : ¬ (ps.length : Int) < (ps.length : Int) := by omega
      by_cases h1 : (named ps name ps.length).length = 1
      · rw [if_pos h1] at HG
        have h1' : ((named ps name ps.length).length : Int) = 1 := by omega
        clear h1 hnl
        generalize ((named ps name ps.length).length : Int) = t at *
        subst h1'
        go_wp2_with fail
        go_ret2
        exact ⟨by rw [HG.out]; rfl, Below.refl _ _⟩
      · rw [if_neg h1] at HG
        have h1' : (((named ps name ps.length).length : Int) == 1) = false := by rw [beq_eq_false_iff_ne]; omega
        clear h1
        go_wp2_with fail
        go_ret2
        exact ⟨by rw [HG.out]; rfl, Below.refl _ _⟩
theorem go_refget : goFn Tryd.prog 28 = true := by kernel_rfl
end Go.Proofs.YtccppgiigkmdbaaDoor
