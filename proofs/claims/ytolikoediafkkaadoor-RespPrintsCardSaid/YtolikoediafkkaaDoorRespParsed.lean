/- Contract of resp.fieldsOf. And what was RespFields, RespCut, RespParse. -/
import Derived.Test.YtolikoediafkkaaDoorLineRows
import Derived.Test.YtolikoediafkkaaDoorHeadField
import Derived.Test.YtolikoediafkkaaDoorPairOne
import Derived.Test.YtolikoediafkkaaDoorRespFacts
import Derived.Handy
import Derived.Test.YtolikoediafkkaaDoorRespPlain
import Derived.Test.YtolikoediafkkaaDoorItoa
import Derived.Test.YtolikoediafkkaaDoorNumDec
import Derived.Test.YtolikoediafkkaaDoorCmp
import Derived.Test.YtolikoediafkkaaDoorStrRun
import Derived.Lib.IndexBytes
import Derived.Deep.Cut
import Derived.Test.YtolikoediafkkaaDoorHttpLines
import Derived.Test.YtolikoediafkkaaDoorRespPrint
import Derived.Test.YtolikoediafkkaaDoorPairSame
namespace Go.Proofs.YtolikoediafkkaaDoor
open Go.ChangeShapes Go.WideShapes Go.ChangeAt Go.RowKit
set_option linter.unusedVariables false
set_option linter.unusedSimpArgs false

/-- are all lines fields? -/
def allF (ls : List (List UInt8)) : Bool := ls.all fun x => decide ((fieldL x).2 = 0)
theorem allF_iff (ls : List (List UInt8)) : allF ls = true ↔ ∀ x ∈ ls, (fieldL x).2 = 0 := by simp [allF]
set_option maxRecDepth 8000 in
set_option maxHeartbeats 4000000 in
theorem rfieldsOf_any (A : Option Addr) (n c : Nat) (ls : List (List UInt8)) (w : World) (hp : StrsOff w A ls) (hn : ls.length = n) (hx : ∀ x ∈ ls, x.length ≤ 100000) (hnn : n ≤ 100000) :
    Calls Tryd.prog 47 #[.slice A n c] w fun e w' => ∃ v, e = .returned (.tuple #[v, .bool (allF ls)]) ∧ (allF ls = true → POwn w.heap.size v (ls.map fun x => (fieldL x).1) w') ∧ Below w.heap.size w w' := by
  obtain ⟨RR, hRR⟩ : ∃ R, allF ls = R := ⟨_, rfl⟩
  have HR := hideIt hRR
  rw [hRR]
  clear hRR
  have HP := hideIt hp
  have HX := hideIt hx
  have HL := hideIt hn
  have HNN := hideIt hnn
  clear hp hx hn
  go_enter Tryd.func47, Tryd.ntmps47
  go_wp2_with fail
  go_loopw [4, 11] (fun v i wr => ∃ j : Nat, j ≤ n ∧ i = .int .i64 (j : Int) ∧ POwn w.heap.size v (doneL ls j) wr ∧ (∀ y ∈ ls.take j, (fieldL y).2 = 0) ∧ Below w.heap.size w wr) (fun v i wr => n - (intOf i).toNat)
  case atStart => exact ⟨0, by omega, rfl, POwn.nil _ _, by simp, Below.refl _ _⟩
  case round =>
    obtain ⟨j, hj, rfl, ho, ha, hb⟩ := hrel
    have HO := hideIt ho
    have HA := hideIt ha
    have HB := hideIt hb
    clear ho ha hb
    have hdl := done_len ls j
    by_cases hlt : j < n
    · have hji : (j : Int) < (n : Int) := by omega
      obtain ⟨x, hxj⟩ : ∃ x, ls[j]? = some x := ⟨_, List.getElem?_eq_getElem (by have := HL.out; omega)⟩
      obtain ⟨b, off, rfl, hlt2, hc⟩ := (HP.out.keep HB.out) (by have := HL.out; omega)
      have c1 := hc j x hxj
      have HF := hideIt (fun w => field_any x w (by have := HX.out x (List.mem_of_getElem? hxj); omega))
      have DS := hideIt (done_succ ls j x hxj)
      have HXJ := hideIt hxj
      have hwj : IntKind.i64.wrap ((j : Int) + 1) = (j : Int) + 1 := IntWalk.i64_in _ (by omega)
      clear hc hxj
      by_cases hz : (fieldL x).2 = 0
      · have TS := hideIt (take_succ_all HA.out HXJ.out hz)
        rw [hz] at HF
        generalize (fieldL x).1 = p at *
        unfold pairV errV at HF
        clear hz
        generalize doneL ls j = done at *
        go_wp2_with fail
        refine (HF.out _).mono ?_
        rintro e u1 ⟨rfl, hb1⟩
        have P1 := hideIt (PCell.new u1 p)
        have B1 := hideIt (below_then (below_then HB.out hb1) (below_new u1 (.cells #[.string (strOf p.1), .string (strOf p.2)] 41)))
        have O1 := hideIt ((HO.out.keep hb1).keep (below_new u1 (.cells #[.string (strOf p.1), .string (strOf p.2)] 41)))
        have q0 := P1.out.cell0
        have q1 := P1.out.cell1
        have hdl' : Hid (done.length ≤ 100000) := hideIt (by omega)
        clear hb1 HB HO HF
        go_upto_region 6 with fail
        generalize u1.alloc (.cells #[.string (strOf p.1), .string (strOf p.2)] 41) = X1 at *
        generalize u1.heap.size = g1 at *
        go_wp2_with (at_builtin; refine wpList_appP1 rfl (.tmp 22) (.tmp 24) rfl w.heap.size _ done p rfl O1.out rfl (by have := hdl'.out; omega) B1.out.size ?_)
        intro v4 w4 o4 g4
        have O4 := hideIt o4
        have B4 : Hid (Below w.heap.size w w4) := hideIt (B1.out.trans (g4 _ (Nat.le_refl _)))
        clear o4 g4 q0 q1 P1 B1 O1
        go_wp2_with fail
        go_roundw
        case rel => exact ⟨j + 1, by omega, by go_num, by rw [DS.out]; exact O4.out, TS.out, B4.out⟩
        case measure => simp [intOf]; omega
      · have E : Hid (RR = false) := hideIt (by
          rw [← HR.out]
          cases hh : allF ls with
          | false => rfl
          | true => exact absurd ((allF_iff ls).1 hh x (List.mem_of_getElem? HXJ.out)) hz)
        obtain ⟨m, hm⟩ : ∃ m, (fieldL x).2 = m := ⟨_, rfl⟩
        rw [hm] at HF hz
        have hne : ((m : Int) == 0) = false := by rw [beq_eq_false_iff_ne]; omega
        have hne2 : ¬ (m : Int) = 0 := by omega
        generalize (fieldL x).1 = p at *
        unfold pairV errV at HF
        clear hm hz DS
        generalize doneL ls j = done at *
        go_wp2_with fail
        refine (HF.out _).mono ?_
        rintro e u1 ⟨rfl, hb1⟩
        have B1 := hideIt (below_then (below_then HB.out hb1) (below_new u1 (.cells #[.string (strOf p.1), .string (strOf p.2)] 41)))
        clear hb1 HB HO HF
        go_wp2_with fail
        go_ret2
        exact ⟨_, by rw [E.out]; rfl, (fun h => by rw [E.out] at h; exact absurd h (by decide)), B1.out⟩
    · obtain rfl : j = n := by omega
      have hji : ¬ (j : Int) < (j : Int) := by omega
      have ht : ls.take j = ls := List.take_of_length_le (by have := HL.out; omega)
      have E : Hid (RR = true) := hideIt (by
        have := HA.out
        rw [ht] at this
        rw [← HR.out]
        exact (allF_iff ls).2 this)
      have ED : Hid (doneL ls j = ls.map fun x => (fieldL x).1) := hideIt (by unfold doneL; rw [ht])
      clear ht
      obtain ⟨B, d, rfl, _⟩ := HO.out.open
      go_wp2_with fail
      go_ret2
      exact ⟨_, by rw [E.out]; rfl, (fun _ => by rw [← ED.out]; exact HO.out), HB.out⟩
theorem go_rfieldsOf : goFn Tryd.prog 47 = true := by kernel_rfl
end Go.Proofs.YtolikoediafkkaaDoor

/- Contracts of strings.Cut at a blank, and of resp.statusOf. -/
namespace Go.Proofs.YtolikoediafkkaaDoor
open Go.ChangeShapes Go.WideShapes Go.ChangeAt Go.RowKit Go.Shelf
set_option linter.unusedVariables false
set_option linter.unusedSimpArgs false

theorem slIndex_any (l : List UInt8) (w : World) : Calls Tryd.prog 79 #[.string (strOf l), .string ⟨#[32]⟩] w fun e w' => e = .returned (.int .i64 (match cutS [32] l with | none => -1 | some x => (x.1.length : Int))) ∧ w' = w := by
  refine (Any.stringslite_Index_one { laysIndex with } (strOf l) 32 w).mono ?_
  rintro e w' ⟨rfl, rfl⟩
  refine ⟨?_, rfl⟩
  rw [show (strOf l).data.toList = l by simp [strOf], ← Lib.index_one, cut_index [32] (by simp) l]
  cases cutS [32] l <;> rfl
theorem cutB_len (l : List UInt8) : (cutB l).1.length ≤ l.length ∧ (cutB l).2.length ≤ l.length := by
  unfold cutB
  cases h : cutS [32] l with
  | none => simp
  | some x => have := cut_len h; simp only; simp at this; omega
set_option maxRecDepth 8000 in
set_option maxHeartbeats 2000000 in
theorem slCut_any (l : List UInt8) (w : World) (hl : l.length ≤ 900000000) :
    Calls Tryd.prog 66 #[.string (strOf l), .string ⟨#[32]⟩] w fun e w' => ∃ b : Bool, e = .returned (.tuple #[.string (strOf (cutB l).1), .string (strOf (cutB l).2), .bool b]) ∧ Below w.heap.size w w' := by
  have H := hideIt (slIndex_any l w)
  cases hc : cutS [32] l with
  | none =>
    have e : cutB l = (l, []) := by unfold cutB; rw [hc]
    rw [e]
    rw [hc] at H
    show Calls Tryd.prog 66 #[.string (strOf l), .string ⟨#[32]⟩] w fun e w' => ∃ b : Bool, e = .returned (.tuple #[.string (strOf l), .string ⟨#[]⟩, .bool b]) ∧ Below w.heap.size w w'
    generalize strOf l = s at *
    simp only at H
    clear hc e hl
    go_enter Tryd.func66, Tryd.ntmps66
    go_wp2_with fail
    refine H.out.mono ?_
    rintro e w2 ⟨rfl, rfl⟩
    go_wp2_with fail
    go_ret3
    exact ⟨_, rfl, Below.refl _ _⟩
  | some x =>
    have e : cutB l = x := by unfold cutB; rw [hc]
    rw [e]
    rw [hc] at H
    simp only at H
    have hlen := cut_len hc
    obtain ⟨ht, hd⟩ := cut_take hc
    obtain ⟨x1, x2⟩ := x
    obtain ⟨k, hk⟩ : ∃ k, x1.length = k := ⟨_, rfl⟩
    simp only at ht hd hlen H ⊢
    rw [hk] at ht hd H hlen
    simp only [List.length_cons, List.length_nil] at hd hlen
    have HT := hideIt ht
    have HD := hideIt hd
    have hkl : k + 1 ≤ l.length := by omega
    have hkge : (0 : Int) ≤ (k : Int) := by omega
    clear hc e ht hd hlen hk
    have hE : (⟨#[32]⟩ : ByteArray) = strOf [32] := rfl
    rw [hE] at H ⊢
    go_enter Tryd.func66, Tryd.ntmps66
    go_wp2_with fail
    refine H.out.mono ?_
    rintro e w2 ⟨rfl, rfl⟩
    have B2 : Hid (Below w2.heap.size w2 w2) := hideIt (Below.refl _ _)
    clear H hE
    go_wp2_with fail
    refine region_inv [Fact.str (l), Fact.is (.int .i64 ((k : Nat) : Int)), Fact.str ((l).take k), Fact.str (l), Fact.is (.int .i64 ((k : Nat) : Int)), Fact.str ([32]), Fact.is (.int .i64 (([32]).length : Int)), Fact.is (.int .i64 ((k + 1 : Nat) : Int)), Fact.str ((l).drop (k + 1)), Fact.str ((l).take k), Fact.str ((l).drop (k + 1)), Fact.is (.bool true)] (by kernel_rfl) (by kernel_rfl) ⟨fun a w1 m => ?_, fun a w1 m => ?_, fun a w1 m => ?_, fun a w1 m => ?_, fun a w1 m => ?_, fun a w1 m => ?_, fun a w1 m => ?_, fun a w1 m => ?_, fun a w1 m => ?_, fun a w1 m => ?_, fun a w1 m => ?_, fun a w1 m => ?_, trivial⟩ ?_
    · exact ok_move (wanted_none rfl) (.tmp 0) rfl (m.old 0 rfl)
    · exact ok_move (wanted_none rfl) (.tmp 7) rfl (m.old 7 rfl)
    · exact ok_strHi (wanted_none rfl) (.tmp 13) (.tmp 14) rfl _ k (m.has 0 13 rfl rfl) (m.has 1 14 rfl rfl) (by omega)
    · exact ok_move (wanted_none rfl) (.tmp 0) rfl (m.old 0 rfl)
    · exact ok_move (wanted_none rfl) (.tmp 7) rfl (m.old 7 rfl)
    · exact ok_move (wanted_none rfl) (.tmp 1) rfl (m.old 1 rfl)
    · exact ok_strlen (wanted_none rfl) (.tmp 18) rfl _ (m.has 5 18 rfl rfl)
    · exact ok_bin (wanted_none rfl) _ _ _ (.tmp 17) (.tmp 19) rfl _ _ _ (m.has 4 17 rfl rfl) (m.has 6 19 rfl rfl) rfl (run_add64 k 1 (by omega))
    · exact ok_strLo (wanted_none rfl) (.tmp 16) (.tmp 20) rfl _ (k + 1) (m.has 3 16 rfl rfl) (m.has 7 20 rfl rfl) (by omega)
    · exact ok_assign (wanted_none rfl) (.tmp 15) rfl (m.has 2 15 rfl rfl)
    · exact ok_assign (wanted_none rfl) (.tmp 21) rfl (m.has 8 21 rfl rfl)
    · exact ok_assign (wanted_none rfl) (.const (.bool true)) rfl (rfl)
    intro f w9 hg hf
    have e9 : f 9 = .string (strOf (l.take k)) := hf 9 (by decide)
    have e10 : f 10 = .string (strOf (l.drop (k + 1))) := hf 10 (by decide)
    have e11 : f 11 = .bool true := hf 11 (by decide)
    have B9 := hideIt (below_then B2.out hg)
    clear hf
    simp only [List.take, List.drop, putAll, Act.put, List.setIfInBounds_toArray, List.set_cons_succ, List.set_cons_zero]
    rw [e9, e10, e11]
    clear e9 e10 e11
    rw [HT.out, HD.out]
    clear hg
    go_wp2_with fail
    go_ret3
    exact ⟨_, rfl, B9.out⟩
theorem go_slCut : goFn Tryd.prog 66 = true := by kernel_rfl
theorem cutB_any (l : List UInt8) (w : World) (hl : l.length ≤ 900000000) :
    Calls Tryd.prog 55 #[.string (strOf l), .string ⟨#[32]⟩] w fun e w' => ∃ b : Bool, e = .returned (.tuple #[.string (strOf (cutB l).1), .string (strOf (cutB l).2), .bool b]) ∧ Below w.heap.size w w' := by
  have H := hideIt (slCut_any l w hl)
  generalize strOf (cutB l).1 = s1 at *
  generalize strOf (cutB l).2 = s2 at *
  generalize strOf l = s at *
  clear hl
  go_enter Tryd.func55, Tryd.ntmps55
  go_wp2_with fail
  refine H.out.mono ?_
  rintro e w2 ⟨b, rfl, hb⟩
  have HB := hideIt hb
  clear hb
  go_wp2_with fail
  go_ret3
  exact ⟨_, rfl, HB.out⟩
theorem go_cutB : goFn Tryd.prog 55 = true := by kernel_rfl
theorem statusOf_any (l : List UInt8) (w : World) (hl : l.length ≤ 1000000) :
    Calls Tryd.prog 46 #[.string (strOf l)] w fun e w' => e = .returned (.tuple #[.int .i64 ((statP l).getD 0), .bool (statP l).isSome]) ∧ Below w.heap.size w w' := by
  have h1 := cutB_len l
  have h2 := cutB_len (cutB l).2
  have H1 := hideIt (cutB_any l w (by omega))
  have H2 := hideIt (fun w => cutB_any (cutB l).2 w (by omega))
  have H3 := hideIt (fun w => dec_any (strOf (cutB (cutB l).2).1) 999 w (by rw [strOf_size]; unfold maxLen; omega) (by decide))
  have e1 : (strOf (cutB (cutB l).2).1).data.toList = (cutB (cutB l).2).1 := by simp [strOf]
  rw [e1] at H3
  have e2 : (statP l).getD 0 = decV (cutB (cutB l).2).1 999 ∧ (statP l).isSome = decB (cutB (cutB l).2).1 999 := by
    unfold statP
    by_cases h : decB (cutB (cutB l).2).1 999 = true
    · rw [if_pos h, h]; exact ⟨rfl, rfl⟩
    · rw [if_neg h]
      simp only [Bool.not_eq_true] at h
      rw [h, decV_false h]; exact ⟨rfl, rfl⟩
  rw [e2.1, e2.2]
  clear e1 e2 h1 h2
  generalize decV (cutB (cutB l).2).1 999 = dv at *
  generalize decB (cutB (cutB l).2).1 999 = db at *
  generalize strOf (cutB (cutB l).2).1 = s1 at *
  generalize strOf (cutB (cutB l).2).2 = s2 at *
  generalize strOf (cutB l).1 = s3 at *
  generalize strOf (cutB l).2 = s4 at *
  generalize strOf l = s at *
  clear hl
  go_enter Tryd.func46, Tryd.ntmps46
  go_wp2_with fail
  refine H1.out.mono ?_
  rintro e w2 ⟨b, rfl, hb⟩
  have B2 := hideIt hb
  clear hb
  go_wp2_with fail
  refine (H2.out _).mono ?_
  rintro e w3 ⟨b3, rfl, hb⟩
  have B3 := hideIt (below_then B2.out hb)
  clear hb
  go_wp2_with fail
  refine (H3.out _).mono ?_
  rintro e w4 ⟨rfl, hb⟩
  have B4 := hideIt (below_then B3.out hb)
  clear hb
  go_wp2_with fail
  go_ret2
  exact ⟨rfl, B4.out⟩
theorem go_statusOf : goFn Tryd.prog 46 = true := by kernel_rfl
end Go.Proofs.YtolikoediafkkaaDoor

/- Contract of resp.response: the one response that bytes may be. -/
namespace Go.Proofs.YtolikoediafkkaaDoor
open Go.ChangeShapes Go.WideShapes Go.ChangeAt Go.RowKit
set_option linter.unusedVariables false
set_option linter.unusedSimpArgs false

/-- x[1:h] of texts -/
theorem slice_strs2 (A : Option Addr) (m c h : Nat) (h1 : 1 ≤ h) (h2 : h ≤ m) (h3 : m ≤ c) : ∃ A1, (∀ w, (Instr.slice 63 (.slice A m c) (some (.int .i64 1)) (some (.int .i64 (h : Int))) none).run Tryd.prog w = .ok (.slice A1 (h - 1) (c - 1)) w) ∧
    (∀ w ps, ps.length = m → StrsAt w A ps → StrsOff w A1 ((ps.drop 1).take (h - 1))) := by
  obtain ⟨i0, hi, hz0, hz1, hz2⟩ := info_parts info_string
  have e1 : (0 : Int) ≤ 1 ∧ (1 : Int) ≤ (h : Int) := by omega
  have e2 : (1 : Int) ≤ (h : Int) ∧ (h : Int) ≤ (c : Int) := by omega
  have e3 : (0 : Int) ≤ (h : Int) ∧ (h : Int) ≤ (c : Int) := by omega
  refine ⟨if c = 1 then A else A.map (·.add (1 * 1)), fun w => ?_, fun w ps hm hb hn => ?_⟩
  · simp [Instr.slice, Instr.sliceBounds, Instr.sliceBound, asIntOf, run_underlying Tryd.underlying63, sizeOf, typeInfo, hi, hz1, e1, e2, e3]
    intro hh; omega
  · rw [List.length_take, List.length_drop] at hn
    obtain ⟨b, rfl, hlt, hc⟩ := hb (by omega)
    refine ⟨b, 1, ?_, hlt, fun j p hj => ?_⟩
    · rw [if_neg (by omega)]; simp [Addr.add]
    · rw [List.getElem?_take] at hj
      split at hj
      · rw [List.getElem?_drop] at hj
        exact hc _ _ hj
      · cases hj
theorem RespNew.zero (base : Nat) (w : World) : RespNew base (.slice none 0 0) none 0 RespZ w := ⟨POwn.nil _ _, piece_nil _, fun k _ hn ad he => by cases he⟩
theorem lines_facts {bs : List UInt8} {ls : List (List UInt8)} {en : Nat} (h : linesT bs = (ls, en, true)) : ls.length ≤ bs.length ∧ (∀ x ∈ ls, x.length ≤ bs.length) ∧ en ≤ bs.length := by
  unfold linesT at h
  cases hl : linesL bs with
  | none => rw [hl] at h; cases h
  | some z =>
    rw [hl] at h
    obtain ⟨z1, z2⟩ := z
    simp only [Prod.mk.injEq] at h
    obtain ⟨rfl, rfl, _⟩ := h
    have := lines_len (n := bs.length + 1) (l := bs) hl
    exact ⟨by have := this.1; omega, this.2.1, Nat.sub_le _ _⟩
theorem cand_parts {st : List UInt8 → Option Int} {bs : List UInt8} {ls : List (List UInt8)} {en : Nat} {ok : Bool} (h : linesT bs = (ls, en, ok)) :
    (ok = false → candL st bs = none) ∧ (ls.length < 2 → candL st bs = none) ∧ (st (ls.getD 0 []) = none → candL st bs = none) ∧ (allF (midL ls) = false → candL st bs = none) ∧
    (ok = true → 2 ≤ ls.length → ∀ s, st (ls.getD 0 []) = some s → allF (midL ls) = true → candL st bs = some ⟨s, (midL ls).map fun x => (fieldL x).1, bs.drop en⟩) := by
  unfold candL
  rw [h]
  simp only
  refine ⟨fun h1 => ?_, fun h1 => ?_, fun h1 => ?_, fun h1 => ?_, fun h1 h2 s h3 h4 => ?_⟩
  · rw [if_neg (by simp [h1])]
  · rw [if_neg (fun h => by have := h.2; omega)]
  · rw [h1]; split <;> rfl
  · have h2 : ¬ ∀ x ∈ midL ls, (fieldL x).2 = 0 := fun hh => by rw [(allF_iff _).2 hh] at h1; cases h1
    by_cases hc : ok = true ∧ 2 ≤ ls.length
    · rw [if_pos hc]
      cases st (ls.getD 0 []) with
      | none => rfl
      | some s => exact if_neg h2
    · rw [if_neg hc]
  · rw [if_pos ⟨h1, h2⟩, h3]
    simp only
    rw [if_pos ((allF_iff _).1 h4)]
set_option maxRecDepth 8000 in
set_option maxHeartbeats 4000000 in
theorem response_any (A : Option Addr) (bs : List UInt8) (n c : Nat) (w : World) (hp : PieceOk w ⟨A, c, bs⟩) (hn : bs.length = n) (hl : n ≤ 100000) (hm : MaxOk w) :
    Calls Tryd.prog 36 #[.slice A n c] w fun e w' => ∃ fv A' c', e = .returned (.tuple #[respV ((candL statP bs).getD RespZ) fv A' c', .bool (candL statP bs).isSome]) ∧ RespNew w.heap.size fv A' c' ((candL statP bs).getD RespZ) w' ∧ Below w.heap.size w w' := by
  obtain ⟨T, hT⟩ : ∃ T, linesT bs = T := ⟨_, rfl⟩
  obtain ⟨ls, en, ok⟩ := T
  have CP := cand_parts (st := statP) hT
  obtain ⟨R, hR⟩ : ∃ R, candL statP bs = R := ⟨_, rfl⟩
  rw [hR] at CP ⊢
  have HC := hideIt CP
  have hbx := below_new w zeroR
  obtain ⟨X, hX⟩ : ∃ X, w.alloc zeroR = X := ⟨_, rfl⟩
  have hzx : RCell X w.heap.size (.int .i64 0) (.slice none 0 0) (.slice none 0 0) := by rw [← hX]; exact RCell.zero w
  rw [hX] at hbx
  have HLI := hideIt (lines_any A bs n c X (hp.keep hbx) hn hl (hm.keep hbx))
  rw [hT] at HLI
  have HLF := hideIt (fun (h : ok = true) => lines_facts (show linesT bs = (ls, en, true) by rw [hT, h]))
  have BX := hideIt hbx
  have ZX := hideIt hzx
  have HX := hideIt hX
  have HP := hideIt hp
  have HN := hideIt hn
  unfold zeroR at HX
  clear hp hn hm hbx hzx hX CP hT hR
  go_enter Tryd.func36, Tryd.ntmps36
  go_upto_region 1 with fail
  rw [HX.out]
  go_wp2_with fail
  refine HLI.out.mono ?_
  rintro e u1 ⟨v, rfl, hv, hb⟩
  have B1 := hideIt (below_then BX.out hb)
  have Z1 := hideIt (ZX.out.keep hb ZX.out.lt)
  have L1 := hideIt hv
  simp only at hv L1 ⊢
  obtain ⟨LA, lc, rfl, hlc1, hlc2, hst⟩ := hv.open
  have ST := hideIt hst
  clear hb HLI L1 hv hst
  obtain ⟨lm, hlm⟩ : ∃ lm, ls.length = lm := ⟨_, rfl⟩
  have HLM := hideIt hlm
  rw [hlm] at hlc1 ⊢
  clear hlm
  cases ok with
  | false =>
    have E := hideIt (HC.out.1 rfl)
    have q0 := Z1.out.fz 0
    have q1 := Z1.out.fz 1
    have q2 := Z1.out.fz 2
    have k0 := Z1.out.c0
    have k1 := Z1.out.c1
    have k2 := Z1.out.c2
    have ZS := hideIt (Z1.out.set (.int .i64 0) (.slice none 0 0) (.slice none 0 0))
    have BS := hideIt (below_setR B1.out (Nat.le_refl _) (.int .i64 0) (.slice none 0 0) (.slice none 0 0))
    go_wp2_with fail
    (try simp only [Exit.inBlock, Exit.then])
    refine bodyPost_ret (results_R2 Tryd.results36 _ _ w.heap.size (.int .i64 0) (.slice none 0 0) (.slice none 0 0) _ rfl rfl (by exact ZS.out)) rfl ?_
    exact ⟨.slice none 0 0, none, 0, by rw [E.out]; rfl, by rw [E.out]; exact RespNew.zero _ _, BS.out⟩
  | true =>
    by_cases h2 : lm < 2
    · have E := hideIt (HC.out.2.1 (by rw [HLM.out]; exact h2))
      have h2' : (lm : Int) < 2 := by omega
      have q0 := Z1.out.fz 0
      have q1 := Z1.out.fz 1
      have q2 := Z1.out.fz 2
      have k0 := Z1.out.c0
      have k1 := Z1.out.c1
      have k2 := Z1.out.c2
      have ZS := hideIt (Z1.out.set (.int .i64 0) (.slice none 0 0) (.slice none 0 0))
      have BS := hideIt (below_setR B1.out (Nat.le_refl _) (.int .i64 0) (.slice none 0 0) (.slice none 0 0))
      go_wp2_with fail
      (try simp only [Exit.inBlock, Exit.then])
      refine bodyPost_ret (results_R2 Tryd.results36 _ _ w.heap.size (.int .i64 0) (.slice none 0 0) (.slice none 0 0) _ rfl rfl (by exact ZS.out)) rfl ?_
      exact ⟨.slice none 0 0, none, 0, by rw [E.out]; rfl, by rw [E.out]; exact RespNew.zero _ _, BS.out⟩
    · have h2' : ¬ (lm : Int) < 2 := by omega
      obtain ⟨f1, f2, f3⟩ := HLF.out rfl
      obtain ⟨x0, hx0⟩ : ∃ x0, ls[0]? = some x0 := ⟨_, List.getElem?_eq_getElem (by have := HLM.out; omega)⟩
      have hg0 : ls.getD 0 [] = x0 := by simp [List.getD, hx0]
      obtain ⟨lb, rfl, hlt, hc⟩ := ST.out (by have := HLM.out; omega)
      have c0 := hc 0 x0 hx0
      have HS := hideIt (fun w => statusOf_any x0 w (by have := f2 x0 (List.mem_of_getElem? hx0); have := HN.out; omega))
      have hwm : IntKind.i64.wrap ((lm : Int) - 1) = ((lm - 1 : Nat) : Int) := by
        rw [IntWalk.i64_in _ (by have := HLM.out; have := HN.out; omega)]; omega
      have SO : Hid (StrsOff u1 (some ⟨lb, 1, none⟩) (midL ls)) := hideIt fun hn => ⟨lb, 1, rfl, hlt, fun j p hj => by
        unfold midL at hj
        rw [List.getElem?_take] at hj
        split at hj
        · rw [List.getElem?_drop] at hj
          exact hc _ _ hj
        · cases hj⟩
      have hml : (midL ls).length = lm - 1 - 1 := by unfold midL; rw [List.length_take, List.length_drop]; have := HLM.out; omega
      have HML := hideIt hml
      have HMX : Hid (∀ x ∈ midL ls, x.length ≤ 100000) := hideIt fun x hx => by
        have h1 : x ∈ ls := List.mem_of_mem_drop (List.mem_of_mem_take hx)
        have := f2 x h1
        have := HN.out
        omega
      have HDN : Hid (lm - 1 - 1 ≤ 100000) := hideIt (by have := HLM.out; have := HN.out; omega)
      have HF3 : Hid (en ≤ n) := hideIt (by have := HN.out; omega)
      have h21 : 2 ≤ lm := by omega
      clear hc f1 f2 f3 hml hx0
      cases hsx : statP x0 with
      | none =>
        have E := hideIt (HC.out.2.2.1 (by rw [hg0]; exact hsx))
        rw [hsx] at HS
        clear hsx hg0
        have HS2 : Hid (∀ w, Calls Tryd.prog 46 #[.string (strOf x0)] w fun e w' => e = .returned (.tuple #[.int .i64 0, .bool false]) ∧ Below w.heap.size w w') := HS
        generalize strOf x0 = sx at *
        go_wp2_with fail
        refine (HS2.out _).mono ?_
        rintro e u2 ⟨rfl, hb⟩
        have B2 := hideIt (below_then B1.out hb)
        have Z2 := hideIt (Z1.out.keep hb Z1.out.lt)
        clear hb c0
        have q0 := Z2.out.fz 0
        have q1 := Z2.out.fz 1
        have q2 := Z2.out.fz 2
        have k0 := Z2.out.c0
        have k1 := Z2.out.c1
        have k2 := Z2.out.c2
        have ZS := hideIt (Z2.out.set (.int .i64 0) (.slice none 0 0) (.slice none 0 0))
        have BS := hideIt (below_setR B2.out (Nat.le_refl _) (.int .i64 0) (.slice none 0 0) (.slice none 0 0))
        go_wp2_with fail
        (try simp only [Exit.inBlock, Exit.then])
        refine bodyPost_ret (results_R2 Tryd.results36 _ _ w.heap.size (.int .i64 0) (.slice none 0 0) (.slice none 0 0) _ rfl rfl (by exact ZS.out)) rfl ?_
        exact ⟨.slice none 0 0, none, 0, by rw [E.out]; rfl, by rw [E.out]; exact RespNew.zero _ _, BS.out⟩
      | some s =>
        have HG0 := hideIt hg0
        have HSX := hideIt hsx
        rw [hsx] at HS
        clear hsx hg0
        have HS2 : Hid (∀ w, Calls Tryd.prog 46 #[.string (strOf x0)] w fun e w' => e = .returned (.tuple #[.int .i64 s, .bool true]) ∧ Below w.heap.size w w') := HS
        clear HS
        generalize strOf x0 = sx at *
        go_wp2_with fail
        refine (HS2.out _).mono ?_
        rintro e u2 ⟨rfl, hb⟩
        have B2 := hideIt (below_then B1.out hb)
        have Z2 := hideIt (Z1.out.keep hb Z1.out.lt)
        have HFO := hideIt (rfieldsOf_any (some ⟨lb, 1, none⟩) (lm - 1 - 1) (lc - 1) (midL ls) u2 (SO.out.keep hb) HML.out HMX.out HDN.out)
        clear hb c0
        go_wp2_with fail
        refine HFO.out.mono ?_
        rintro e u3 ⟨v3, rfl, hown, hb⟩
        have B3 := hideIt (below_then B2.out hb)
        have Z3 := hideIt (Z2.out.keep hb Z2.out.lt)
        clear hb HFO
        cases haf : allF (midL ls) with
        | false =>
          have E := hideIt (HC.out.2.2.2.1 haf)
          clear hown haf
          have q0 := Z3.out.fz 0
          have q1 := Z3.out.fz 1
          have q2 := Z3.out.fz 2
          have k0 := Z3.out.c0
          have k1 := Z3.out.c1
          have k2 := Z3.out.c2
          have ZS := hideIt (Z3.out.set (.int .i64 0) (.slice none 0 0) (.slice none 0 0))
          have BS := hideIt (below_setR B3.out (Nat.le_refl _) (.int .i64 0) (.slice none 0 0) (.slice none 0 0))
          go_wp2_with fail
          (try simp only [Exit.inBlock, Exit.then])
          refine bodyPost_ret (results_R2 Tryd.results36 _ _ w.heap.size (.int .i64 0) (.slice none 0 0) (.slice none 0 0) _ rfl rfl (by exact ZS.out)) rfl ?_
          exact ⟨.slice none 0 0, none, 0, by rw [E.out]; rfl, by rw [E.out]; exact RespNew.zero _ _, BS.out⟩
        | true =>
          have E := hideIt (HC.out.2.2.2.2 (by trivial) (by have := HLM.out; omega) s (by rw [HG0.out]; exact HSX.out) haf)
          have O3 := hideIt (hown haf)
          have HBQ : Hid (w.heap.size < u2.heap.size) := hideIt Z2.out.lt
          have hpf := HP.out.fits
          have hpm := HP.out.most
          have hpl := HP.out.long
          simp only at hpf hpm hpl
          obtain ⟨A2, t1, t2, t3, t4⟩ := slice_lo A n c en HF3.out (by have := HN.out; omega) HP.out.nil
          have hlen : (bs.drop en).length = n - en := by rw [List.length_drop, HN.out]
          have P3 : PieceOk u3 ⟨A2, c - en, bs.drop en⟩ := ⟨t2 u3 _ bs HN.out (HP.out.keep B3.out).bytes, by simp only; rw [hlen]; have := HN.out; omega, by simp only; omega, by simp only; rw [hlen]; have := HN.out; omega, t4⟩
          have HBC := hideIt (bclone_any A2 (bs.drop en) (n - en) (c - en) u3 P3 hlen)
          have HLE := hideIt hlen
          clear hown haf t2 t3 t4 P3 hlen hpf hpm hpl
          obtain ⟨FA, fc, rfl, _, _, _, _⟩ := O3.out.open
          generalize n - en = dn at *
          generalize c - en = dc at *
          generalize ((midL ls).map fun x => (fieldL x).1).length = fl at *
          go_wp2_with fail
          refine HBC.out.mono ?_
          rintro e u4 ⟨A', c', rfl, hpc, hap, hb⟩
          have B4 := hideIt (below_then B3.out hb)
          have Z4 := hideIt (Z3.out.keep hb Z3.out.lt)
          have HPC := hideIt hpc
          have HAPA : Hid (∀ k, k < w.heap.size → Apart A' (bs.drop en) k) := hideIt fun k hk => hap k (by have := Z3.out.lt; omega)
          have HAPQ := hideIt (hap w.heap.size Z3.out.lt)
          have O4 := hideIt (O3.out.keep hb)
          have q0 := Z4.out.fz 0
          have q1 := Z4.out.fz 1
          have q2 := Z4.out.fz 2
          have k0 := Z4.out.c0
          have k1 := Z4.out.c1
          have k2 := Z4.out.c2
          have ZS := hideIt (Z4.out.set (.int .i64 s) (.slice FA fl fc) (.slice A' dn c'))
          have BS := hideIt (below_setR B4.out (Nat.le_refl _) (.int .i64 s) (.slice FA fl fc) (.slice A' dn c'))
          have GS := hideIt (grown_setR u4 w.heap.size (.int .i64 s) (.slice FA fl fc) (.slice A' dn c'))
          clear hb hpc hap
          go_wp2_with fail
          (try simp only [Exit.inBlock, Exit.then])
          refine bodyPost_ret (results_R2 Tryd.results36 _ _ w.heap.size (.int .i64 s) (.slice FA fl fc) (.slice A' dn c') _ rfl rfl (by exact ZS.out)) rfl ?_
          refine ⟨.slice FA fl fc, A', c', ?_, ?_, BS.out⟩
          · rw [E.out]
            show _ = Ending.returned (.tuple #[.agg #[.int .i64 s, .slice FA fl fc, .slice A' (bs.drop en).length c'], .bool true])
            rw [HLE.out]
            rfl
          · rw [E.out]
            exact ⟨(O4.out.block fun i hi => GS.out.block i (O4.out.lt i hi).2 (fun e => by cases e; have := (O4.out.lt _ hi).1; have := HBQ.out; omega)).base (by have := HBQ.out; omega), HPC.out.grown GS.out HAPQ.out, HAPA.out⟩
theorem go_response : goFn Tryd.prog 36 = true := by kernel_rfl
end Go.Proofs.YtolikoediafkkaaDoor

/- Contract of resp.Parse. -/
namespace Go.Proofs.YtolikoediafkkaaDoor
open Go.ChangeShapes Go.WideShapes Go.ChangeAt Go.RowKit
set_option linter.unusedVariables false
set_option linter.unusedSimpArgs false

/-- what Parse leaves: a response in memory that is newer than the call -/
def ParseRPost (bs : List UInt8) (w : World) (e : Ending) (w' : World) : Prop :=
  ∃ fv A' c', e = .returned (.tuple #[respV (parseR bs).1 fv A' c', .int .u16 ((parseR bs).2 : Int)]) ∧ RespNew w.heap.size fv A' c' (parseR bs).1 w' ∧ Below w.heap.size w w'
theorem cand_small {st : List UInt8 → Option Int} {bs : List UInt8} {r : RespL} (h : candL st bs = some r) : r.fs.length ≤ bs.length ∧ (∀ p ∈ r.fs, p.1.length ≤ bs.length ∧ p.2.length ≤ bs.length) ∧ r.body.length ≤ bs.length := by
  obtain ⟨T, hT⟩ : ∃ T, linesT bs = T := ⟨_, rfl⟩
  obtain ⟨ls, en, ok⟩ := T
  unfold candL at h
  rw [hT] at h
  simp only at h
  by_cases hc : ok = true ∧ 2 ≤ ls.length
  · rw [if_pos hc] at h
    obtain ⟨hok, _⟩ := hc
    rw [hok] at hT
    obtain ⟨f1, f2, f3⟩ := lines_facts hT
    cases hs : st (ls.getD 0 []) with
    | none => rw [hs] at h; cases h
    | some s =>
      rw [hs] at h
      simp only at h
      by_cases ha : ∀ x ∈ midL ls, (fieldL x).2 = 0
      · rw [if_pos ha] at h
        cases h
        refine ⟨?_, fun p hp => ?_, ?_⟩
        · simp only [List.length_map]
          unfold midL
          rw [List.length_take, List.length_drop]
          omega
        · obtain ⟨x, hx, rfl⟩ := List.mem_map.1 hp
          have h1 := f2 x (List.mem_of_mem_drop (List.mem_of_mem_take hx))
          have h2 := fieldL_len x
          exact ⟨by omega, by omega⟩
        · simp only [List.length_drop]; omega
      · rw [if_neg ha] at h; cases h
  · rw [if_neg hc] at h; cases h
set_option maxRecDepth 8000 in
set_option maxHeartbeats 4000000 in
theorem rparse_any (A : Option Addr) (bs : List UInt8) (n c : Nat) (w : World) (hp : PieceOk w ⟨A, c, bs⟩) (hn : bs.length = n) (hl : n ≤ 100000) (hm : MaxOk w) (hT : PowOk w) :
    Calls Tryd.prog 24 #[.slice A n c] w (ParseRPost bs w) := by
  obtain ⟨C, hC⟩ : ∃ C, candL statP bs = C := ⟨_, rfl⟩
  have hbx := below_new w zeroR
  obtain ⟨X, hX⟩ : ∃ X, w.alloc zeroR = X := ⟨_, rfl⟩
  have hzx : RCell X w.heap.size (.int .i64 0) (.slice none 0 0) (.slice none 0 0) := by rw [← hX]; exact RCell.zero w
  rw [hX] at hbx
  have HRE := hideIt (response_any A bs n c X (hp.keep hbx) hn hl (hm.keep hbx))
  rw [hC] at HRE
  have BX := hideIt hbx
  have ZX := hideIt hzx
  have HX := hideIt hX
  have HP := hideIt hp
  have HN := hideIt hn
  have HT := hideIt hT
  unfold zeroR at HX
  have HCS := hideIt (fun r (h : C = some r) => cand_small (st := statP) (bs := bs) (r := r) (by rw [hC, h]))
  have HPR : Hid (parseR bs = parseC C bs) := hideIt (by unfold parseR; rw [hC])
  clear hp hn hm hT hbx hzx hX hC
  cases C with
  | none =>
    have E : Hid (parseR bs = (RespZ, 10)) := hideIt (by rw [HPR.out]; rfl)
    have HR2 : Hid (Calls Tryd.prog 36 #[.slice A n c] X fun e w' => ∃ fv A' c', e = .returned (.tuple #[.agg #[.int .i64 0, fv, .slice A' 0 c'], .bool false]) ∧ RespNew X.heap.size fv A' c' RespZ w' ∧ Below X.heap.size X w') := HRE
    clear HRE HCS HPR
    go_enter Tryd.func24, Tryd.ntmps24
    go_upto_region 1 with fail
    rw [HX.out]
    go_wp2_with fail
    refine HR2.out.mono ?_
    rintro e u1 ⟨fv, A', c', rfl, hnew, hb⟩
    have B1 := hideIt (below_then BX.out hb)
    have Z1 := hideIt (ZX.out.keep hb ZX.out.lt)
    obtain ⟨FA, fc, rfl, _⟩ := hnew.fields.open
    clear hb hnew HR2
    go_upto_region 3 with fail
    have hbn := below_new u1 (.cells #[.int .i64 0, .slice FA RespZ.fs.length fc, .slice A' 0 c'] 25)
    have B2 := hideIt (below_then B1.out hbn)
    have Z2 := hideIt (Z1.out.keep hbn Z1.out.lt)
    clear hbn
    generalize u1.alloc (.cells #[.int .i64 0, .slice FA RespZ.fs.length fc, .slice A' 0 c'] 25) = Y at *
    have q0 := Z2.out.fz 0
    have q1 := Z2.out.fz 1
    have q2 := Z2.out.fz 2
    have k0 := Z2.out.c0
    have k1 := Z2.out.c1
    have k2 := Z2.out.c2
    have ZS := hideIt (Z2.out.set (.int .i64 0) (.slice none 0 0) (.slice none 0 0))
    have BS := hideIt (below_setR B2.out (Nat.le_refl _) (.int .i64 0) (.slice none 0 0) (.slice none 0 0))
    go_wp2_with fail
    (try simp only [Exit.inBlock, Exit.then])
    refine bodyPost_ret (results_R2 Tryd.results24 _ _ w.heap.size (.int .i64 0) (.slice none 0 0) (.slice none 0 0) _ rfl rfl (by exact ZS.out)) rfl ?_
    exact ⟨.slice none 0 0, none, 0, by rw [E.out]; rfl, by rw [E.out]; exact RespNew.zero _ _, BS.out⟩
  | some r =>
    have HR2 : Hid (Calls Tryd.prog 36 #[.slice A n c] X fun e w' => ∃ fv A' c', e = .returned (.tuple #[respV r fv A' c', .bool true]) ∧ RespNew X.heap.size fv A' c' r w' ∧ Below X.heap.size X w') := HRE
    obtain ⟨g1, g2, g3⟩ := HCS.out r rfl
    have HSM : Hid (r.fs.length ≤ 40 → ∀ p ∈ r.fs, p.1.length ≤ 400000 ∧ p.2.length ≤ 400000) := hideIt fun _ p hp => by
      have := g2 p hp
      have := HN.out
      exact ⟨by omega, by omega⟩
    have HXW : Hid (w.heap.size < X.heap.size) := hideIt ZX.out.lt
    unfold respV at HR2
    obtain ⟨s, hs⟩ : ∃ s, r.status = s := ⟨_, rfl⟩
    have HS := hideIt hs
    rw [hs] at HR2
    clear HRE HCS g1 g2 g3 hs
    go_enter Tryd.func24, Tryd.ntmps24
    go_upto_region 1 with fail
    rw [HX.out]
    go_wp2_with fail
    refine HR2.out.mono ?_
    rintro e u1 ⟨fv, A', c', rfl, hnew, hb⟩
    have B1 := hideIt (below_then BX.out hb)
    have Z1 := hideIt (ZX.out.keep hb ZX.out.lt)
    have NW := hideIt hnew
    obtain ⟨FA, fc, rfl, _⟩ := hnew.fields.open
    clear hb hnew HR2
    go_upto_region 4 with fail
    have hbn := below_new u1 (.cells #[.int .i64 s, .slice FA r.fs.length fc, .slice A' r.body.length c'] 25)
    have B2 := hideIt (below_then B1.out hbn)
    have Z2 := hideIt (Z1.out.keep hbn Z1.out.lt)
    have G2 := hideIt (RCell.new u1 (.int .i64 s) (.slice FA r.fs.length fc) (.slice A' r.body.length c'))
    have N2 := hideIt (NW.out.keep hbn)
    have HGQ : Hid (w.heap.size < u1.heap.size) := hideIt Z1.out.lt
    clear hbn
    generalize u1.alloc (.cells #[.int .i64 s, .slice FA r.fs.length fc, .slice A' r.body.length c'] 25) = Y at *
    generalize hg1 : u1.heap.size = g1 at *
    clear hg1
    have HPRI := hideIt (rprint_any r (.slice FA r.fs.length fc) A' c' Y N2.out.parts HSM.out (HT.out.keep B2.out))
    unfold respV at HPRI
    rw [HS.out] at HPRI
    have d0 := G2.out.c0
    have d1 := G2.out.c1
    have d2 := G2.out.c2
    obtain ⟨P, hP⟩ : ∃ P, printR r = P := ⟨_, rfl⟩
    obtain ⟨px, pk⟩ := P
    have HPP := hideIt hP
    unfold PrintRPost at HPRI
    rw [hP] at HPRI
    simp only at HPRI
    clear hP
    go_wp2_with fail
    refine HPRI.out.mono ?_
    rintro e u2 ⟨A2, c2, rfl, hpp, hap, hb⟩
    have B3 := hideIt (below_then B2.out hb)
    have Z3 := hideIt (Z2.out.keep hb Z2.out.lt)
    have G3 := hideIt (G2.out.keep hb G2.out.lt)
    have N3 := hideIt (N2.out.keep hb)
    have P3 := hideIt hpp
    clear hb hpp hap HPRI d0 d1 d2
    by_cases hk : pk = 0
    · subst hk
      have HBE := hideIt (beq_any A2 A px bs c2 c u2 P3.out (HP.out.keep B3.out))
      rw [HN.out] at HBE
      by_cases hxb : px = bs
      · have E : Hid (parseR bs = (r, 0)) := hideIt (by rw [HPR.out]; unfold parseC; simp only; rw [HPP.out, if_pos ⟨rfl, hxb⟩])
        rw [decide_eq_true hxb] at HBE
        clear hxb
        go_wp2_with fail
        refine HBE.out.mono ?_
        rintro e u3 ⟨rfl, rfl⟩
        have q0 := Z3.out.fz 0
        have q1 := Z3.out.fz 1
        have q2 := Z3.out.fz 2
        have k0 := Z3.out.c0
        have k1 := Z3.out.c1
        have k2 := Z3.out.c2
        have d0 := G3.out.c0
        have d1 := G3.out.c1
        have d2 := G3.out.c2
        have ZS := hideIt (Z3.out.set (.int .i64 s) (.slice FA r.fs.length fc) (.slice A' r.body.length c'))
        have BS := hideIt (below_setR B3.out (Nat.le_refl _) (.int .i64 s) (.slice FA r.fs.length fc) (.slice A' r.body.length c'))
        have NS := hideIt (N3.out.grown (grown_setR u2 w.heap.size (.int .i64 s) (.slice FA r.fs.length fc) (.slice A' r.body.length c')) (by have := HXW.out; omega))
        generalize hfl : r.fs.length = fl at *
        generalize hbl : r.body.length = bl at *
        have HBL := hideIt hbl
        clear hfl hbl
        go_wp2_with fail
        (try simp only [Exit.inBlock, Exit.then])
        refine bodyPost_ret (results_R2 Tryd.results24 _ _ w.heap.size (.int .i64 s) (.slice FA fl fc) (.slice A' bl c') _ rfl rfl (by exact ZS.out)) rfl ?_
        refine ⟨.slice FA fl fc, A', c', ?_, ?_, BS.out⟩
        · rw [E.out]
          show _ = Ending.returned (.tuple #[.agg #[.int .i64 r.status, .slice FA fl fc, .slice A' r.body.length c'], .int .u16 ((0 : Nat) : Int)])
          rw [HBL.out, HS.out]
          rfl
        · rw [E.out]
          exact NS.out.base (by have := HXW.out; omega)
      · have E : Hid (parseR bs = (RespZ, 10)) := hideIt (by rw [HPR.out]; unfold parseC; simp only; rw [HPP.out, if_neg (fun h => hxb h.2)])
        rw [decide_eq_false hxb] at HBE
        clear hxb
        go_wp2_with fail
        refine HBE.out.mono ?_
        rintro e u3 ⟨rfl, rfl⟩
        have q0 := Z3.out.fz 0
        have q1 := Z3.out.fz 1
        have q2 := Z3.out.fz 2
        have k0 := Z3.out.c0
        have k1 := Z3.out.c1
        have k2 := Z3.out.c2
        have ZS := hideIt (Z3.out.set (.int .i64 0) (.slice none 0 0) (.slice none 0 0))
        have BS := hideIt (below_setR B3.out (Nat.le_refl _) (.int .i64 0) (.slice none 0 0) (.slice none 0 0))
        go_wp2_with fail
        (try simp only [Exit.inBlock, Exit.then])
        refine bodyPost_ret (results_R2 Tryd.results24 _ _ w.heap.size (.int .i64 0) (.slice none 0 0) (.slice none 0 0) _ rfl rfl (by exact ZS.out)) rfl ?_
        exact ⟨.slice none 0 0, none, 0, by rw [E.out]; rfl, by rw [E.out]; exact RespNew.zero _ _, BS.out⟩
    · have E : Hid (parseR bs = (RespZ, 10)) := hideIt (by rw [HPR.out]; unfold parseC; simp only; rw [HPP.out, if_neg (fun h => hk h.1)])
      have hne : ((pk : Int) == 0) = false := by rw [beq_eq_false_iff_ne]; omega
      have hne2 : ¬ (pk : Int) = 0 := by omega
      clear hk
      have q0 := Z3.out.fz 0
      have q1 := Z3.out.fz 1
      have q2 := Z3.out.fz 2
      have k0 := Z3.out.c0
      have k1 := Z3.out.c1
      have k2 := Z3.out.c2
      have ZS := hideIt (Z3.out.set (.int .i64 0) (.slice none 0 0) (.slice none 0 0))
      have BS := hideIt (below_setR B3.out (Nat.le_refl _) (.int .i64 0) (.slice none 0 0) (.slice none 0 0))
      go_wp2_with fail
      (try simp only [Exit.inBlock, Exit.then])
      refine bodyPost_ret (results_R2 Tryd.results24 _ _ w.heap.size (.int .i64 0) (.slice none 0 0) (.slice none 0 0) _ rfl rfl (by exact ZS.out)) rfl ?_
      exact ⟨.slice none 0 0, none, 0, by rw [E.out]; rfl, by rw [E.out]; exact RespNew.zero _ _, BS.out⟩
theorem go_rparse : goFn Tryd.prog 24 = true := by kernel_rfl
end Go.Proofs.YtolikoediafkkaaDoor
