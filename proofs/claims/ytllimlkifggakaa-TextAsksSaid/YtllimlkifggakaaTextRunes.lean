/- Contracts of text.Runes and text.Escape. -/
import Derived.Test.YtllimlkifggakaaTextMay
import Derived.Test.YtllimlkifggakaaBuilderW
namespace Go.Proofs.Ytllimlkifggakaa
open Go.ChangeShapes Go.WideShapes Go.ChangeAt Go.RowKit
set_option linter.unusedVariables false
set_option linter.unusedSimpArgs false

set_option maxHeartbeats 1000000 in
theorem count1_any (k r : Int) (b n : Nat) (w : World) (hn : n ≤ 1000000) (hc : w.cell? ⟨b, 0, none⟩ = some (.int .i64 (n : Int))) (hf : w.frozen? ⟨b, 0, none⟩ = false) :
    Calls Try.prog 23 #[.int .i64 k, .int .i32 r, .pointer (some ⟨b, 0, none⟩)] w fun e w' => e = .returned (.bool true) ∧ w' = w.setCell ⟨b, 0, none⟩ (.int .i64 ((n + 1 : Nat) : Int)) := by
  have hw : IntKind.i64.wrap ((n : Int) + 1) = (n : Int) + 1 := IntWalk.i64_in _ (by omega)
  go_enter Try.func23, Try.ntmps23
  go_wp2
  go_ret
  exact ⟨rfl, by simp⟩
theorem go_count1 : goFn Try.prog 23 = true := by kernel_rfl
/-- the worlds behind so many runes -/
def cntW (w : World) (j : Nat) : World := w.alloc (.cells #[.int .i64 (j : Int)] 3)
theorem cntW_size (w : World) (j : Nat) : (cntW w j).heap.size = w.heap.size + 1 := alloc_size _ _
theorem cntW_at (w : World) (j : Nat) (s : ByteArray) (p : Nat) : ((cntW w j).iter s p).heap[w.heap.size]? = some (.cells #[.int .i64 (j : Int)] 3 (0, 0)) :=
  (Below.heap_alloc (cntW w j) _ w.heap.size (by rw [cntW_size]; omega)).trans (heap_alloc_new w _)
theorem cntW_set (w : World) (j n : Nat) : (cntW w j).setCell ⟨w.heap.size, 0, none⟩ (.int .i64 (n : Int)) = cntW w n := by
  unfold cntW
  rw [World.setCell_alloc_at _ _ _ _ _ rfl]
  rfl
def runesB (l : List UInt8) : Bool := okT l
def runesN (l : List UInt8) : Nat := if okT l = true then cntT l else 0
theorem each_all (k : Nat) (l : List UInt8) : eachT (fun _ _ => true) k l = okT l := by
  revert k
  refine chop_ind (p := fun l => ∀ k, eachT (fun _ _ => true) k l = okT l) (fun k => rfl) (fun l hl ih k => ?_) l
  rw [eachT_cons _ k l hl, okT_cons l hl, ih, Bool.and_true]
set_option maxHeartbeats 1000000 in
theorem runes_any (l : List UInt8) (w : World) (hl : l.length ≤ 1000000) :
    Calls Try.prog 12 #[.string (strOf l)] w fun e w' => e = .returned (.tuple #[.int .i64 (runesN l : Int), .bool (okT l)]) ∧ Below w.heap.size w w' := by
  have H := hideIt (each_any l hl 23 #[.pointer (some ⟨w.heap.size, 0, none⟩)] (fun _ _ => true) (cntW w) (fun j => by rw [cntW_size, cntW_size]) (fun j k r p hj hr => by
    refine (count1_any (k : Int) (r : Int) w.heap.size j ((cntW w j).iter (strOf l) p) hj ?_ ?_).mono ?_
    · exact Lib.cell_of_heap (cntW_at w j _ p) 0
    · exact Lib.frozen_of_heap (cntW_at w j _ p) 0
    · rintro e w' ⟨rfl, rfl⟩
      exact ⟨rfl, by rw [setCell_iter _ _ _ _ _ (by rw [cntW_size]; exact Nat.lt_succ_self _), cntW_set]⟩) go_count1)
  have hc0 : cntW w 0 = w.alloc (.cells #[.int .i64 0] 3) := rfl
  rw [hc0] at H
  clear hc0
  unfold runesN
  cases ho : okT l
  · rw [if_neg (by decide)]
    go_enter Try.func12, Try.ntmps12
    go_wp2_with fail
    refine H.out.mono ?_
    rintro e w' ⟨j, p, rfl, rfl, hj⟩
    rw [each_all, ho]
    have HB : Hid (Below w.heap.size w ((cntW w j).iter (strOf l) p)) := hideIt (below_one (below_one (Below.refl _ _) _) _)
    generalize (cntW w j).iter (strOf l) p = w2 at *
    clear hj
    go_wp2_with fail
    go_ret2
    exact ⟨rfl, HB.out⟩
  · rw [if_pos rfl]
    go_enter Try.func12, Try.ntmps12
    go_wp2_with fail
    refine H.out.mono ?_
    rintro e w' ⟨j, p, rfl, rfl, hj⟩
    rw [each_all, ho] at hj
    rw [each_all, ho]
    obtain rfl := hj rfl
    have hc : ((cntW w (cntT l)).iter (strOf l) p).cell? ⟨w.heap.size, 0, none⟩ = some (.int .i64 (cntT l : Int)) := Lib.cell_of_heap (cntW_at w _ _ p) 0
    have HB : Hid (Below w.heap.size w ((cntW w (cntT l)).iter (strOf l) p)) := hideIt (below_one (below_one (Below.refl _ _) _) _)
    generalize (cntW w (cntT l)).iter (strOf l) p = w2 at *
    clear hj
    go_wp2_with fail
    go_ret2
    exact ⟨rfl, HB.out⟩
theorem go_runes : goFn Try.prog 12 = true := by kernel_rfl
theorem escC_len (c : List UInt8) : (escC c).length ≤ 5 * c.length + 1 := by
  unfold escC escB
  repeat' split
  all_goals first | omega | (simp_all; done) | (simp_all; omega)
set_option maxHeartbeats 2000000 in
theorem escape_any (l : List UInt8) (w : World) (hl : l.length ≤ 1000000) :
    Calls Try.prog 13 #[.string (strOf l)] w fun e w' => e = .returned (.string (strOf (escT l))) ∧ Below w.heap.size w w' := by
  have HSZ := hideIt (strOf_size l)
  have HBR := hideIt (fun k w => broken_any l k w hl)
  have HD := hideIt (decode_strOf l)
  go_enter Try.func13, Try.ntmps13
  go_wp2
  go_loopw [] (fun wr => ∃ (k : Nat) (acc : List UInt8), k ≤ l.length ∧ Bld w.heap.size w.heap.size acc wr ∧ wr.heap[w.heap.size + 1]? = some (.stringIter (strOf l) k) ∧ Below w.heap.size w wr ∧ escT l = acc ++ escT (l.drop k) ∧ acc.length ≤ 6 * k) (fun wr => l.length - wr.iterPos (w.heap.size + 1))
  case atStart =>
    refine ⟨0, [], Nat.zero_le _, (Lib.IsBuilderF.of (Lib.fresh_isBuilder 39 5 w)).alloc _, ?_, below_one (below_one (Below.refl _ _) _) _, rfl, by simp⟩
    have := World.iter_heap (w.alloc (.cells #[.pointer none, .slice none 0 0] 39)) (strOf l) 0
    rwa [alloc_size] at this
  case round =>
    obtain ⟨k, acc, hk, hb, hit, hbl, he, hal⟩ := hrel
    have HE := hideIt he
    have HIT := hideIt hit
    have HBL := hideIt hbl
    have HBD := hideIt hb
    clear he hbl hb
    have hpos : wr.iterPos (w.heap.size + 1) = k := by simp [World.iterPos, hit]
    have HPOS := hideIt hpos
    clear hpos
    by_cases hkl : k < l.length
    · have hnx : ∀ ty, (Instr.next (.pointer (some ⟨w.heap.size + 1, 0, none⟩)) true ty).run Try.prog wr = .ok (.tuple #[.bool true, .int .i64 (k : Int), .int .i32 ((dec (l.drop k)).1 : Int)]) (wr.iterAt (w.heap.size + 1) (strOf l) (k + wd (l.drop k))) := fun ty => by
        have := Lib.run_next_any_at (P := Try.prog) wr (w.heap.size + 1) (strOf l) k ty hit (by rw [HSZ.out]; exact hkl)
        rw [HD.out k] at this
        exact this
      clear hit
      have hdl : 1 ≤ (l.drop k).length := by rw [List.length_drop]; omega
      have HX := hideIt (escT_cons (l.drop k) hdl)
      have hz := wd_le (l.drop k) hdl
      rw [List.length_drop] at hz
      have HP := hideIt (wd_pos (l.drop k))
      have I2 := hideIt (Lib.iterAt_heap wr (w.heap.size + 1) (strOf l) k (k + wd (l.drop k)) HIT.out)
      have B2 := hideIt (Lib.IsBuilderF.iterAt HBD.out HIT.out (k + wd (l.drop k)))
      have L2 := hideIt (Lib.below_iterAt HBL.out (k := w.heap.size + 1) (by omega) (strOf l) (k + wd (l.drop k)))
      have HBB := hideIt (HBR.out k (wr.iterAt (w.heap.size + 1) (strOf l) (k + wd (l.drop k))) hkl)
      generalize wr.iterAt (w.heap.size + 1) (strOf l) (k + wd (l.drop k)) = w2 at *
      have hw2 : w.heap.size ≤ w2.heap.size := L2.out.size
      cases hg : goodL (l.drop k)
      · have hw1 : wd (l.drop k) = 1 := by rw [wd, (bad_is hg).1]
        have hec : escC ((l.drop k).take (wd (l.drop k))) = [63] := by
          unfold escC
          rw [good_chunk _ hdl, hg]; rfl
        have HW := hideIt (bbyte_any w.heap.size w.heap.size acc 63 w2 B2.out (by omega) hw2)
        rw [hg] at HBB
        generalize (dec (l.drop k)).1 = r at *
        go_wp2_with fail
        refine HBB.out.mono ?_
        rintro e w3 ⟨rfl, rfl⟩
        go_wp2_with fail
        refine HW.out.mono ?_
        rintro e w4 ⟨rfl, hb4, hl4, hk4⟩
        have hi4 := hk4.iter I2.out (by omega)
        have R : Hid (∃ (k' : Nat) (acc' : List UInt8), k' ≤ l.length ∧ Bld w.heap.size w.heap.size acc' w4 ∧ w4.heap[w.heap.size + 1]? = some (.stringIter (strOf l) k') ∧ Below w.heap.size w w4 ∧ escT l = acc' ++ escT (l.drop k') ∧ acc'.length ≤ 6 * k') := hideIt
          ⟨k + wd (l.drop k), acc ++ [63], by omega, hb4, hi4, L2.out.trans hl4, by rw [HE.out, HX.out, hec, List.drop_drop]; simp, by simp; omega⟩
        have M : Hid (l.length - w4.iterPos (w.heap.size + 1) < l.length - wr.iterPos (w.heap.size + 1)) := hideIt (by
          have e1 : w4.iterPos (w.heap.size + 1) = k + wd (l.drop k) := by simp [World.iterPos, hi4]
          rw [e1, HPOS.out]; omega)
        clear hi4 hl4 hk4 hb4
        go_wp2_with fail
        go_roundw
        case rel => exact R.out
        case measure => exact M.out
      · have hec : escC ((l.drop k).take (wd (l.drop k))) = escB ((l.drop k).take (wd (l.drop k))) := by
          unfold escC
          rw [good_chunk _ hdl, hg]; rfl
        have hlen := escC_len ((l.drop k).take (wd (l.drop k)))
        rw [List.length_take, List.length_drop, hec] at hlen
        have HEX := hideIt (escaped_any (l.drop k) w2 hdl hg)
        have HW := hideIt (bstr_any w.heap.size w.heap.size acc (escB ((l.drop k).take (wd (l.drop k)))) w2 B2.out (by omega) hw2)
        rw [hg] at HBB
        generalize (dec (l.drop k)).1 = r at *
        go_wp2_with fail
        refine HBB.out.mono ?_
        rintro e w3 ⟨rfl, rfl⟩
        go_wp2_with fail
        refine HEX.out.mono ?_
        rintro e w3 ⟨rfl, rfl⟩
        go_wp2_with fail
        refine HW.out.mono ?_
        rintro e w4 ⟨rfl, hb4, hl4, hk4⟩
        have hi4 := hk4.iter I2.out (by omega)
        have R : Hid (∃ (k' : Nat) (acc' : List UInt8), k' ≤ l.length ∧ Bld w.heap.size w.heap.size acc' w4 ∧ w4.heap[w.heap.size + 1]? = some (.stringIter (strOf l) k') ∧ Below w.heap.size w w4 ∧ escT l = acc' ++ escT (l.drop k') ∧ acc'.length ≤ 6 * k') := hideIt
          ⟨k + wd (l.drop k), acc ++ escB ((l.drop k).take (wd (l.drop k))), by omega, hb4, hi4, L2.out.trans hl4, by rw [HE.out, HX.out, hec, List.drop_drop]; simp, by rw [List.length_append]; have := HP.out; omega⟩
        have M : Hid (l.length - w4.iterPos (w.heap.size + 1) < l.length - wr.iterPos (w.heap.size + 1)) := hideIt (by
          have e1 : w4.iterPos (w.heap.size + 1) = k + wd (l.drop k) := by simp [World.iterPos, hi4]
          rw [e1, HPOS.out]; have := HP.out; omega)
        clear hi4 hl4 hk4 hb4
        go_wp2_with fail
        go_roundw
        case rel => exact R.out
        case measure => exact M.out
    · obtain rfl : k = l.length := by omega
      have hnx : ∀ ty, (Instr.next (.pointer (some ⟨w.heap.size + 1, 0, none⟩)) true ty).run Try.prog wr = .ok (.tuple #[.bool false]) wr := fun ty => Lib.run_next_end_at (P := Try.prog) wr (w.heap.size + 1) (strOf l) l.length ty hit (by rw [HSZ.out]; exact hkl)
      have hacc : escT l = acc := by have := HE.out; rw [List.drop_length, escT_nil, List.append_nil] at this; exact this
      have HS := hideIt (bstring_any w.heap.size w.heap.size acc wr HBD.out HBL.out.size)
      have HACC := hideIt hacc
      clear hit hacc
      go_wp2_with fail
      refine HS.out.mono ?_
      rintro e w4 ⟨rfl, hl4⟩
      have F := hideIt (HBL.out.trans hl4)
      clear hl4
      go_wp2_with fail
      go_ret
      exact ⟨by rw [HACC.out]; rfl, F.out⟩
theorem go_escape : goFn Try.prog 13 = true := by kernel_rfl
end Go.Proofs.Ytllimlkifggakaa
