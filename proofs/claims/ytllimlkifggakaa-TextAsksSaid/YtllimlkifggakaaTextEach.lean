/- The contract of text.each. -/
import Derived.Test.YtllimlkifggakaaTextSmall
import Derived.Test.YtllimlkifggakaaIter
namespace Go.Proofs.Ytllimlkifggakaa
open Go.ChangeShapes Go.WideShapes Go.ChangeAt Go.RowKit
set_option linter.unusedVariables false
set_option linter.unusedSimpArgs false

/-- what each answers of a function that tells may, and leaves the worlds Wf behind it, one a call -/
def EachTold (l : List UInt8) (may : Nat → Nat → Bool) (Wf : Nat → World) (e : Ending) (w' : World) : Prop :=
  ∃ j p, e = .returned (.bool (eachT may 0 l)) ∧ w' = (Wf j).iter (strOf l) p ∧ (eachT may 0 l = true → j = cntT l)
set_option maxHeartbeats 1000000 in
theorem each_any (l : List UInt8) (hl : l.length ≤ 1000000) (F : FuncId) (caps : Array Value) (may : Nat → Nat → Bool) (Wf : Nat → World)
    (hsz : ∀ j, (Wf j).heap.size = (Wf 0).heap.size)
    (hc : ∀ (j k r p : Nat), j ≤ 1000000 → r ≤ 1114111 → Calls Try.prog F (#[.int .i64 (k : Int), .int .i32 (r : Int)] ++ caps) ((Wf j).iter (strOf l) p) fun e w' => e = .returned (.bool (may k r)) ∧ w' = (Wf (j + 1)).iter (strOf l) p) (hf : goFn Try.prog F = true) :
    Calls Try.prog 22 #[.string (strOf l), .func (.func F) #[] caps] (Wf 0) (EachTold l may Wf) := by
  have HSZ := hideIt (strOf_size l)
  have HB := hideIt (fun k w => broken_any l k w hl)
  have HD := hideIt (decode_strOf l)
  have HC := hideIt hc
  have HW := hideIt hsz
  clear hsz hc
  go_enter Try.func22, Try.ntmps22
  go_wp2
  go_loopw [] (fun wr => ∃ (k j : Nat), k ≤ l.length ∧ wr = (Wf j).iter (strOf l) k ∧ eachT may 0 l = eachT may k (l.drop k) ∧ cntT l = j + cntT (l.drop k)) (fun wr => l.length - wr.iterPos (Wf 0).heap.size)
  case atStart => exact ⟨0, 0, Nat.zero_le _, rfl, rfl, by simp⟩
  case round =>
    obtain ⟨k, j, hk, rfl, he, hn⟩ := hrel
    have HE := hideIt he
    have HN := hideIt hn
    clear he hn
    by_cases hkl : k < l.length
    · have hnx : ∀ ty, (Instr.next (.pointer (some ⟨(Wf 0).heap.size, 0, none⟩)) true ty).run Try.prog ((Wf j).iter (strOf l) k) = .ok (.tuple #[.bool true, .int .i64 (k : Int), .int .i32 ((dec (l.drop k)).1 : Int)]) ((Wf j).iter (strOf l) (k + wd (l.drop k))) := fun ty => by
        have := run_next_any (P := Try.prog) (Wf j) (strOf l) k ty (by rw [HSZ.out]; exact hkl)
        rw [HW.out j, HD.out k] at this
        exact this
      have hdl : 1 ≤ (l.drop k).length := by rw [List.length_drop]; omega
      have HX := hideIt (eachT_cons may k (l.drop k) hdl)
      have HY := hideIt (cntT_cons (l.drop k) hdl)
      have HZ := hideIt (wd_le (l.drop k) hdl)
      have HP := hideIt (wd_pos (l.drop k))
      have hmx := dec_max (l.drop k)
      have hB := HB.out k ((Wf j).iter (strOf l) (k + wd (l.drop k))) hkl
      have HBB := hideIt hB
      clear hB
      have HCC := hideIt (HC.out j k (dec (l.drop k)).1 (k + wd (l.drop k)) (by have := HN.out; have := cntT_le l; omega) hmx)
      generalize hg : goodL (l.drop k) = g at *
      generalize hm : may k (dec (l.drop k)).1 = m at *
      generalize (dec (l.drop k)).1 = r at *
      go_wp2_with fail
      refine HBB.out.mono ?_
      rintro e w2 ⟨rfl, rfl⟩
      cases g
      · have R : Hid (EachTold l may Wf (.returned (.bool false)) ((Wf j).iter (strOf l) (k + wd (l.drop k)))) := hideIt ⟨j, _, by rw [HE.out, HX.out]; rfl, rfl, fun h => by rw [HE.out, HX.out] at h; cases h⟩
        go_wp2_with fail
        go_ret
        exact R.out
      · go_wp2_with fail
        rw [run_enter hf]
        go_wp2_with fail
        refine HCC.out.mono ?_
        rintro e w2 ⟨rfl, rfl⟩
        cases m
        · have R : Hid (EachTold l may Wf (.returned (.bool false)) ((Wf (j + 1)).iter (strOf l) (k + wd (l.drop k)))) := hideIt ⟨j + 1, _, by rw [HE.out, HX.out]; rfl, rfl, fun h => by rw [HE.out, HX.out] at h; cases h⟩
          go_wp2_with fail
          go_ret
          exact R.out
        · have hzz : k + wd (l.drop k) ≤ l.length := by have := HZ.out; rw [List.length_drop] at this; omega
          have R : Hid (∃ (k' j' : Nat), k' ≤ l.length ∧ (Wf (j + 1)).iter (strOf l) (k + wd (l.drop k)) = (Wf j').iter (strOf l) k' ∧ eachT may 0 l = eachT may k' (l.drop k') ∧ cntT l = j' + cntT (l.drop k')) := hideIt
            ⟨k + wd (l.drop k), j + 1, hzz, rfl, by rw [HE.out, HX.out, List.drop_drop]; rfl, by rw [HN.out, HY.out, List.drop_drop]; omega⟩
          have M : Hid (l.length - ((Wf (j + 1)).iter (strOf l) (k + wd (l.drop k))).iterPos (Wf 0).heap.size < l.length - ((Wf j).iter (strOf l) k).iterPos (Wf 0).heap.size) := hideIt (by
            rw [iterPos_at _ _ _ _ (HW.out (j + 1)), iterPos_at _ _ _ _ (HW.out j)]
            have := HP.out
            omega)
          go_wp2_with fail
          go_roundw
          case rel => exact R.out
          case measure => exact M.out
    · obtain rfl : k = l.length := by omega
      have hnx : ∀ ty, (Instr.next (.pointer (some ⟨(Wf 0).heap.size, 0, none⟩)) true ty).run Try.prog ((Wf j).iter (strOf l) l.length) = .ok (.tuple #[.bool false]) ((Wf j).iter (strOf l) l.length) := fun ty => by
        have := run_next_end (P := Try.prog) (Wf j) (strOf l) l.length ty (by rw [HSZ.out]; exact hkl)
        rw [HW.out j] at this
        exact this
      have R : Hid (EachTold l may Wf (.returned (.bool true)) ((Wf j).iter (strOf l) l.length)) := hideIt ⟨j, _, by rw [HE.out, List.drop_length]; rfl, rfl, fun _ => by rw [HN.out, List.drop_length]; rfl⟩
      go_wp2_with fail
      go_ret
      exact R.out
theorem go_each : goFn Try.prog 22 = true := by kernel_rfl
end Go.Proofs.Ytllimlkifggakaa
