/- Contracts of strings.Index at one byte, of strings.SplitSeq, and of the function that it hands out. -/
import Derived.RangeFuncNested
import Derived.RangeFuncBound
import Derived.RangeFuncCalls
import Derived.RangeFuncLeaves
import Derived.Shelf.Abstract
import Derived.Shelf.RegionOpen
import Derived.WalkKit
import Derived.OwnWalkIn
import Derived.TacticsInMore
import Derived.LoopNIn
import Derived.LoopIn
import Derived.Lib.Bytealg
import Derived.Lib.FrozenHead
import Derived.Test.YtccppgiigkmdbaaDoorFillPlain
import Derived.Test.YtccppgiigkmdbaaDoorStrRun
import Derived.Test.YtccppgiigkmdbaaDoorCmp
namespace Go.Proofs.YtccppgiigkmdbaaDoor
open Go.ChangeShapes Go.WideShapes Go.ChangeAt Go.RowKit
set_option linter.unusedVariables false
set_option linter.unusedSimpArgs false
attribute [local go_sem] Oper.semAt_some

/-- where '&' stands first -/
def ampAt (l : List UInt8) : Int := Lib.indexByte l 38
theorem amp_none (c : UInt8) (l : List UInt8) (h : Lib.indexByte l c = -1) : splitL c l = [l] := by
  induction l with
  | nil => rfl
  | cons a r ih =>
    unfold Lib.indexByte at h
    split at h
    · cases h
    · rename_i hne
      split at h
      · rename_i hr
        have hn : a ≠ c := by simpa using hne
        obtain ⟨p, ps, e1, e2⟩ := split_other c a r hn
        rw [ih (by simpa using hr)] at e1
        cases e1
        exact e2
      · rename_i hr
        have := Lib.indexByte_ge r c
        have : Lib.indexByte r c ≠ -1 := by simpa using hr
        omega
theorem amp_some (c : UInt8) (l : List UInt8) (i : Nat) (h : Lib.indexByte l c = (i : Int)) : i < l.length ∧ splitL c l = l.take i :: splitL c (l.drop (i + 1)) := by
  induction l generalizing i with
  | nil => unfold Lib.indexByte at h; omega
  | cons a r ih =>
    unfold Lib.indexByte at h
    split at h
    · rename_i he
      have : a = c := by simpa using he
      obtain rfl : i = 0 := by omega
      subst this
      exact ⟨by simp, by rw [split_sep]; simp⟩
    · rename_i hne
      have hn : a ≠ c := by simpa using hne
      split at h
      · omega
      · have hge := Lib.indexByte_ge r c
        rename_i hr
        have : Lib.indexByte r c ≠ -1 := by simpa using hr
        obtain ⟨j, rfl⟩ : ∃ j : Nat, i = j + 1 := ⟨i - 1, by omega⟩
        obtain ⟨h1, h2⟩ := ih j (by omega)
        obtain ⟨p, ps, e1, e2⟩ := split_other c a r hn
        rw [h2] at e1
        cases e1
        exact ⟨by simp; omega, by rw [e2]; simp⟩
theorem amp_cases (l : List UInt8) : (ampAt l = -1 ∧ splitL 38 l = [l]) ∨ ∃ i : Nat, ampAt l = (i : Int) ∧ i < l.length ∧ splitL 38 l = l.take i :: splitL 38 (l.drop (i + 1)) := by
  have hge := Lib.indexByte_ge l 38
  by_cases h : Lib.indexByte l 38 = -1
  · exact .inl ⟨h, amp_none 38 l h⟩
  · refine .inr ⟨(Lib.indexByte l 38).toNat, ?_, ?_⟩
    · show Lib.indexByte l 38 = _; omega
    · exact amp_some 38 l _ (by omega)
theorem ixb_any (l : List UInt8) (w : World) : Calls Tryd.prog 63 #[.string (strOf l), .int .u8 38] w fun e w' => e = .returned (.int .i64 (ampAt l)) ∧ w' = w := by
  have hx : (Extern.BytealgIndexByte.indexByte #[.string (strOf l), .int .u8 38]).run Tryd.prog w = .ok (.int .i64 (ampAt l)) w := by
    have := Lib.run_indexByteString (P := Tryd.prog) (strOf l) 38 w
    simpa [ampAt, strOf] using this
  go_enter Tryd.func63, Tryd.ntmps63
  go_wp2
  rw [run_callFunc_extern Tryd.func66 (by kernel_rfl) (by kernel_rfl) (by kernel_rfl) (e := Extern.BytealgIndexByte.indexByte) (by kernel_rfl)]
  rw [hx]
  simp only [Result.andThen]
  rw [Oper.upon_value]
  go_wp2
  go_ret
  exact ⟨rfl, rfl⟩
set_option maxRecDepth 8000 in
theorem index_lite (l : List UInt8) (w : World) : Calls Tryd.prog 62 #[.string (strOf l), .string ⟨#[38]⟩] w fun e w' => e = .returned (.int .i64 (ampAt l)) ∧ w' = w := by
  have H := hideIt (ixb_any l w)
  by_cases hl : l = [38]
  · subst hl
    rw [show ampAt [38] = 0 by decide, show strOf [38] = ⟨#[38]⟩ from rfl]
    go_enter Tryd.func62, Tryd.ntmps62
    go_wp2
    go_ret
    exact ⟨rfl, rfl⟩
  · have he : (([38] : List UInt8) == (strOf l).toList) = false := by rw [strOf_toList, beq_eq_false_iff_ne]; exact fun h => hl h.symm
    generalize ampAt l = r at *
    generalize strOf l = s at *
    clear hl
    go_enter Tryd.func62, Tryd.ntmps62
    go_wp2_with fail
    refine H.out.mono ?_
    rintro e w2 ⟨rfl, rfl⟩
    go_wp2_with fail
    go_ret
    exact ⟨rfl, rfl⟩
theorem index_any (l : List UInt8) (w : World) : Calls Tryd.prog 60 #[.string (strOf l), .string ⟨#[38]⟩] w fun e w' => e = .returned (.int .i64 (ampAt l)) ∧ w' = w := by
  have H := hideIt (index_lite l w)
  generalize ampAt l = r at *
  generalize strOf l = s at *
  go_enter Tryd.func60, Tryd.ntmps60
  go_wp2_with fail
  refine H.out.mono ?_
  rintro e w2 ⟨rfl, rfl⟩
  go_wp2_with fail
  go_ret
  exact ⟨rfl, rfl⟩
/-- what SplitSeq hands out, and leaves -/
def seqF (q : Nat) : Value := .func (.func 58) #[] #[.pointer (some ⟨q + 1, 0, none⟩), .pointer (some ⟨q, 0, none⟩), .pointer (some ⟨q + 2, 0, none⟩)]
def seqW (l : List UInt8) (w : World) : World := ((w.alloc (.cells #[.string (strOf l)] 9)).alloc (.cells #[.string ⟨#[38]⟩] 9)).alloc (.cells #[.int .i64 0] 3)
theorem splitSeq_any (l : List UInt8) (w : World) : Calls Tryd.prog 55 #[.string (strOf l), .string ⟨#[38]⟩, .int .i64 0] w fun e w' => e = .returned (seqF w.heap.size) ∧ w' = seqW l w := by
  go_enter Tryd.func55, Tryd.ntmps55
  go_wp2
  go_ret
  exact ⟨rfl, rfl⟩
theorem SplitSeq_any (l : List UInt8) (w : World) : Calls Tryd.prog 44 #[.string (strOf l), .string ⟨#[38]⟩] w fun e w' => e = .returned (seqF w.heap.size) ∧ w' = seqW l w := by
  have H := hideIt (splitSeq_any l w)
  generalize seqF w.heap.size = r at *
  generalize seqW l w = W at *
  generalize strOf l = s at *
  go_enter Tryd.func44, Tryd.ntmps44
  go_wp2_with fail
  refine H.out.mono ?_
  rintro e w2 ⟨rfl, rfl⟩
  go_wp2_with fail
  go_ret
  exact ⟨rfl, rfl⟩
/-- how long the text at hand is -/
def handN (w : World) (q : Nat) : Nat := match w.cell? ⟨q, 0, none⟩ with
  | some (.string s) => s.size
  | _ => 0
set_option maxRecDepth 8000 in
set_option maxHeartbeats 2000000 in
theorem seq1_in (n : Nat) (hn : 1 ≤ n) (q l : Nat) (lp : Loop) (t : List UInt8) (ht : t.length ≤ 1000000) (St : List (List UInt8) → World → Prop) (W : World) (h0 : St [] W)
    (hs : W.heap[q]? = some (.cells #[.string (strOf t)] 9 (0, 0)))
    (hK : ∀ ps W, St ps W → W.heap[q + 1]? = some (.cells #[.string ⟨#[38]⟩] 9 (0, 0)) ∧ W.heap[q + 2]? = some (.cells #[.int .i64 0] 3 (0, 0)) ∧ W.heap[l]? = some (.loop lp))
    (hset : ∀ ps W v, St ps W → St ps (W.setCell ⟨q, 0, none⟩ v))
    (hY : ∀ ps p W, p.length ≤ 1000000 → ps.length < (splitL 38 t).length → St ps W → YieldAt Fence.wide (n - 1) Tryd.prog l #[.string (strOf p)] W fun e W' => e = .returned (.bool true) ∧ St (ps ++ [p]) W' ∧ W'.heap[q]? = W.heap[q]?) :
    CallsIn Fence.wide n Tryd.prog 58 #[.func (.yield l) #[] #[], .pointer (some ⟨q + 1, 0, none⟩), .pointer (some ⟨q, 0, none⟩), .pointer (some ⟨q + 2, 0, none⟩)] W fun e W' => (∃ v, e = .returned v) ∧ St (splitL 38 t) W' := by
  have HK := hideIt hK
  have HS := hideIt hset
  have HY := hideIt hY
  have H0 := hideIt h0
  have Hs := hideIt hs
  have c1 : W.cell? ⟨q + 1, 0, none⟩ = some (.string ⟨#[38]⟩) := by rw [cell_of_row W _ _ _ _ _ (hK _ _ h0).1]; rfl
  clear hK hset hY h0 hs
  refine callsIn_of_wp Tryd.func58 rfl trivial ?_ rfl
  simp only [Tryd.ntmps58, List.size_toArray, List.length_cons, List.length_nil, Nat.reduceAdd, Nat.reduceSub, Array.replicate_succ, Array.replicate_zero, List.push_toArray, List.append_toArray, List.nil_append, List.cons_append]
  gi_wp2
  gi_loopw [] (fun wr => ∃ (ps : List (List UInt8)) (r : List UInt8), St ps wr ∧ wr.heap[q]? = some (.cells #[.string (strOf r)] 9 (0, 0)) ∧ ps ++ splitL 38 r = splitL 38 t ∧ r.length ≤ t.length) (fun wr => handN wr q)
  case atStart => exact ⟨[], t, H0.out, Hs.out, by simp, Nat.le_refl _⟩
  case round =>
    obtain ⟨ps, r, hst, hq, hsp, hrl⟩ := hrel
    have cq : wr.cell? ⟨q, 0, none⟩ = some (.string (strOf r)) := by rw [cell_of_row wr _ _ _ _ _ hq]; rfl
    have c1' : wr.cell? ⟨q + 1, 0, none⟩ = some (.string ⟨#[38]⟩) := by rw [cell_of_row wr _ _ _ _ _ (HK.out _ _ hst).1]; rfl
    have c2' : wr.cell? ⟨q + 2, 0, none⟩ = some (.int .i64 0) := by rw [cell_of_row wr _ _ _ _ _ (HK.out _ _ hst).2.1]; rfl
    have HI := hideIt (index_any r wr)
    have HQ := hideIt hq
    have ST := hideIt hst
    have SP := hideIt hsp
    have hsz := strOf_size r
    clear hq hst hsp H0 Hs c1
    rcases amp_cases r with ⟨hi, hsr⟩ | ⟨i, hi, hil, hsr⟩
    · rw [hi] at HI
      rw [hsr] at SP
      clear hi hsr
      obtain ⟨fn, tmps, assign, body, hy, hRd⟩ := HY.out ps r wr (by omega) (by rw [← SP.out]; simp) ST.out
      replace hRd := hideIt hRd
      gi_wp2
      refine ⟨trivial, (callsIn_wide.2 HI.out).mono ?_⟩
      rintro e w2 ⟨rfl, rfl⟩
      gi_wp2
      refine hRd.out.mono ?_
      rintro e w4 ⟨rfl, g4, h4⟩
      have N := hideIt (SP.out ▸ g4)
      clear g4 h4 hRd hy
      gi_wp2
      go_end0
      exact ⟨⟨_, rfl⟩, N.out⟩
    · rw [hi] at HI
      have SP2 : Hid ((ps ++ [r.take i]) ++ splitL 38 (r.drop (i + 1)) = splitL 38 t) := hideIt (by rw [← SP.out, hsr]; simp)
      clear hi hsr
      have hil' : (i : Int) < (r.length : Int) := by omega
      have hil2 : (i : Int) ≤ 1000000 := by omega
      have hil0 : (0 : Int) ≤ (i : Int) := by omega
      have s1 : ∀ w', (Instr.slice 9 (.string (strOf r)) none (some (.int .i64 (i : Int))) none).run Tryd.prog w' = .ok (.string (strOf (r.take i))) w' := fun w' => by
        have := run_slice_str w' r none (some (.int .i64 (i : Int))) .i64 .i64 0 i (.inl ⟨rfl, rfl⟩) (.inr rfl) (by omega) (by omega)
        simpa using this
      have s2 : ∀ w', (Instr.slice 9 (.string (strOf r)) (some (.int .i64 ((i : Int) + 1))) none none).run Tryd.prog w' = .ok (.string (strOf (r.drop (i + 1)))) w' := fun w' => by
        have := run_slice_str w' r (some (.int .i64 ((i + 1 : Nat) : Int))) none .i64 .i64 (i + 1) r.length (.inr rfl) (.inl ⟨rfl, rfl⟩) (by omega) (by omega)
        have e : (r.drop (i + 1)).take (r.length - (i + 1)) = r.drop (i + 1) := List.take_of_length_le (by simp)
        rwa [e] at this
      obtain ⟨fn, tmps, assign, body, hy, hRd⟩ := HY.out ps (r.take i) wr (by simp; omega) (by rw [← SP2.out, List.length_append, List.length_append]; simp only [List.length_cons, List.length_nil]; omega) ST.out
      replace hRd := hideIt hRd
      have HM : Hid (handN wr q = r.length) := hideIt (by simp [handN, cq, hsz])
      have hdl : (r.drop (i + 1)).length = r.length - (i + 1) := by simp
      gi_wp2
      refine ⟨trivial, (callsIn_wide.2 HI.out).mono ?_⟩
      rintro e w2 ⟨rfl, rfl⟩
      gi_wp2
      refine hRd.out.mono ?_
      rintro e w4 ⟨rfl, g4, h4⟩
      have hq4 : w4.heap[q]? = some (.cells #[.string (strOf r)] 9 (0, 0)) := h4.trans HQ.out
      have cq4 : w4.cell? ⟨q, 0, none⟩ = some (.string (strOf r)) := by rw [cell_of_row w4 _ _ _ _ _ hq4]; rfl
      have fq4 : w4.frozen? ⟨q, 0, none⟩ = false := by simp [World.frozen?, hq4]
      have c14 : w4.cell? ⟨q + 1, 0, none⟩ = some (.string ⟨#[38]⟩) := by rw [cell_of_row w4 _ _ _ _ _ (HK.out _ _ g4).1]; rfl
      have HQ5 : Hid ((w4.setCell ⟨q, 0, none⟩ (.string (strOf (r.drop (i + 1))))).heap[q]? = some (.cells #[.string (strOf (r.drop (i + 1)))] 9 (0, 0))) := hideIt (by
        have := heap_setCell_same w4 q 0 _ _ (.string (strOf (r.drop (i + 1)))) hq4
        simpa using this)
      have HM5 : Hid (handN (w4.setCell ⟨q, 0, none⟩ (.string (strOf (r.drop (i + 1))))) q = r.length - (i + 1)) := hideIt (by
        have : (w4.setCell ⟨q, 0, none⟩ (.string (strOf (r.drop (i + 1))))).cell? ⟨q, 0, none⟩ = some (.string (strOf (r.drop (i + 1)))) := World.cell?_setCell_same _ _ _ cq4
        rw [handN, this]
        simp only [strOf_size, hdl])
      have S5 := hideIt (HS.out _ _ (.string (strOf (r.drop (i + 1)))) g4)
      clear g4 h4 hRd hy hq4 cq c1' c2'
      gi_wp2
      go_roundw
      case rel => exact ⟨_, _, S5.out, HQ5.out, SP2.out, by omega⟩
      case measure => rw [HM5.out, HM.out]; omega
end Go.Proofs.YtccppgiigkmdbaaDoor
