/- Contract of head.halves. -/
import Derived.Test.YtolikoediafkkaaDoorHeadToken
import Derived.Deep.Cut
import Derived.Handy
namespace Go.Proofs.YtolikoediafkkaaDoor
open Go.ChangeShapes Go.WideShapes Go.ChangeAt Go.RowKit
set_option linter.unusedVariables false
set_option linter.unusedSimpArgs false

def halvesL (l : List UInt8) : PairL × Bool := if 58 ∈ l then ((nameL l, restL l), true) else (PairZ, false)
def zeroP : Obj := .cells #[.string ⟨#[]⟩, .string ⟨#[]⟩] 41
theorem zeroP_new (w : World) : PCell (w.alloc zeroP) w.heap.size PairZ := PCell.new w PairZ
def notColon (c : UInt8) : Bool := decide (c ≠ 58)
set_option maxRecDepth 8000 in
set_option maxHeartbeats 2000000 in
theorem halves_any (l : List UInt8) (w : World) (hl : l.length ≤ 1000000) :
    Calls Tryd.prog 67 #[.string (strOf l)] w fun e w' => e = .returned (.tuple #[pairV (halvesL l).1, .bool (halvesL l).2]) ∧ Below w.heap.size w w' := by
  have HSZ := hideIt (strOf_size l)
  obtain ⟨Rp, hRp⟩ : ∃ R, halvesL l = R := ⟨_, rfl⟩
  rw [hRp]
  have HR := hideIt hRp
  clear hRp
  go_enter Tryd.func67, Tryd.ntmps67
  go_wp2
  have HZ : Hid ((w.alloc (.cells #[.string ⟨#[]⟩, .string ⟨#[]⟩] 41)).heap.size = w.heap.size + 1) := hideIt (alloc_size _ _)
  go_loopw [] (fun wr => ∃ k : Nat, k ≤ l.length ∧ wr = (w.alloc zeroP).iter (strOf l) k ∧ (l.take k).all notColon = true) (fun wr => l.length - wr.iterPos (w.heap.size + 1))
  case atStart => exact ⟨0, Nat.zero_le _, rfl, rfl⟩
  case round =>
    obtain ⟨k, hk, rfl, ha⟩ := hrel
    have HA := hideIt ha
    clear ha
    have HZ : Hid ((w.alloc zeroP).heap.size = w.heap.size + 1) := HZ
    have HPZ := hideIt (zeroP_new w)
    by_cases hkl : k < l.length
    · have hks : k < (strOf l).size := by have := HSZ.out; omega
      by_cases hasc : (l[k]).toNat < 128
      · have hnx : ∀ ty, (Instr.next (.pointer (some ⟨w.heap.size + 1, 0, none⟩)) true ty).run Tryd.prog ((w.alloc zeroP).iter (strOf l) k) = .ok (.tuple #[.bool true, .int .i64 (k : Int), .int .i32 ((l[k]).toNat : Int)]) ((w.alloc zeroP).iter (strOf l) (k + 1)) := fun ty => by
          have := run_next_ascii (P := Tryd.prog) (w.alloc zeroP) (strOf l) k ty hks hasc
          rw [HZ.out] at this
          exact this
        by_cases hc : l[k] = 58
        · have E : Hid (Rp = ((l.take k, trimL (l.drop (k + 1))), true)) := hideIt (by
            have h1 := name_at l k hkl hc HA.out
            have h2 : restL l = trimL (l.drop (k + 1)) := by rw [restL, h1, List.length_take, Nat.min_eq_left hk]
            rw [← HR.out, halvesL, if_pos (colon_in l k hkl hc), h1, h2])
          have hu : ((l[k]).toNat : Int) = 58 := by rw [hc]; rfl
          rw [hu] at hnx
          have HB := hideIt (below_then (below_new w zeroP) (below_iter (w.alloc zeroP) (strOf l) (k + 1)))
          have HP2 := hideIt (HPZ.out.keep (below_iter (w.alloc zeroP) (strOf l) (k + 1)) (by rw [HZ.out]; omega))
          clear hu hc hasc
          generalize (w.alloc zeroP).iter (strOf l) (k + 1) = X at *
          go_upto_region 5 with fail
          refine region_tail 9 [Fact.str (l), Fact.is (.int .i64 ((k : Nat) : Int)), Fact.str ((l).take k), Fact.str (l), Fact.is (.int .i64 ((k : Nat) : Int)), Fact.is (.int .i64 ((k + 1 : Nat) : Int)), Fact.str ((l).drop (k + 1)), Fact.str (trimL (l.drop (k + 1))), Fact.is (pairV (l.take k, trimL (l.drop (k + 1))))] (by kernel_rfl) (by kernel_rfl) (by kernel_rfl) ⟨fun a w1 m => ?_, fun a w1 m => ?_, fun a w1 m => ?_, fun a w1 m => ?_, fun a w1 m => ?_, fun a w1 m => ?_, fun a w1 m => ?_, fun a w1 m => ?_, fun a w1 m => ?_, trivial⟩ ?_
          · exact ok_move (wanted_none rfl) (.tmp 0) rfl (m.old 0 rfl)
          · exact ok_move (wanted_none rfl) (.tmp 4) rfl (m.old 4 rfl)
          · exact ok_strHi (wanted_none rfl) (.tmp 14) (.tmp 15) rfl _ k (m.has 0 14 rfl rfl) (m.has 1 15 rfl rfl) (by omega)
          · exact ok_move (wanted_none rfl) (.tmp 0) rfl (m.old 0 rfl)
          · exact ok_move (wanted_none rfl) (.tmp 4) rfl (m.old 4 rfl)
          · exact ok_bin (wanted_none rfl) _ _ _ (.tmp 18) _ rfl _ _ _ (m.has 4 18 rfl rfl) (rfl) rfl (run_add64 k 1 (by omega))
          · exact ok_strLo (wanted_none rfl) (.tmp 17) (.tmp 19) rfl _ (k + 1) (m.has 3 17 rfl rfl) (m.has 5 19 rfl rfl) (by omega)
          · exact ok_fn (wanted_none rfl) _ _ _ rfl _ (map1 (m.has 6 20 rfl rfl)) go_trim (trim_any _ w1 (by rw [List.length_drop]; omega)) (fun e w' ⟨h1, h2⟩ => ⟨_, h1, rfl, h2⟩)
          · exact ok_structP (wanted_none rfl) (.tmp 16) (.tmp 21) rfl _ _ (m.has 2 16 rfl rfl) (m.has 7 21 rfl rfl)
          intro f w9 hg hf
          have e8 : f 8 = pairV (l.take k, trimL (l.drop (k + 1))) := hf 8 (by decide)
          have B9 := hideIt (below_then HB.out hg)
          clear hf
          simp only [List.take, List.drop, putAll, Act.put, List.setIfInBounds_toArray, List.set_cons_succ, List.set_cons_zero]
          rw [e8]
          clear e8
          have P9 := HP2.out.keep hg HP2.out.lt
          have q0 := P9.cell0
          have q1 := P9.cell1
          have q2 := P9.open0
          have q3 := P9.open1
          have PS := hideIt (P9.set (l.take k, trimL (l.drop (k + 1))))
          have BS := hideIt (below_setP B9.out (Nat.le_refl _) (.string (strOf (l.take k))) (.string (strOf (trimL (l.drop (k + 1))))))
          simp only at PS
          clear P9 hg B9
          unfold pairV
          simp only
          generalize strOf (l.take k) = sa at *
          generalize strOf (trimL (l.drop (k + 1))) = sb at *
          go_wp2_with fail
          (try simp only [Exit.inBlock, Exit.then])
          refine bodyPost_ret (results_P Tryd.results67 _ _ w.heap.size (l.take k, trimL (l.drop (k + 1))) _ rfl rfl (by exact PS.out)) rfl ?_
          exact ⟨by rw [E.out]; rfl, BS.out⟩
        · have N : Hid ((l.take (k + 1)).all notColon = true) := hideIt (all_step notColon l k (k + 1) (by omega) hkl HA.out fun j hj h1 h2 => by
            obtain rfl : j = k := by omega
            exact decide_eq_true hc)
          have hne : (((l[k]).toNat : Int) == 58) = false := by
            rw [beq_eq_false_iff_ne]
            intro h
            exact hc (UInt8.toNat_inj.1 (by show (l[k]).toNat = 58; omega))
          have M1 := hideIt (iterPos_at (w.alloc zeroP) (strOf l) k _ HZ.out)
          have M2 := hideIt (iterPos_at (w.alloc zeroP) (strOf l) (k + 1) _ HZ.out)
          clear hc hasc
          generalize (l[k]).toNat = u at *
          go_wp2_with fail
          go_roundw
          case rel => exact ⟨k + 1, hkl, rfl, N.out⟩
          case measure => rw [M1.out, M2.out]; omega
      · have h8 : 128 ≤ (l[k]).toNat := by omega
        have hnx : ∀ ty, (Instr.next (.pointer (some ⟨w.heap.size + 1, 0, none⟩)) true ty).run Tryd.prog ((w.alloc zeroP).iter (strOf l) k) = .ok (.tuple #[.bool true, .int .i64 (k : Int), .int .i32 ((dec (l.drop k)).1 : Int)]) ((w.alloc zeroP).iter (strOf l) (k + wd (l.drop k))) := fun ty => by
          have := run_next_any (P := Tryd.prog) (w.alloc zeroP) (strOf l) k ty hks
          rw [decode_strOf, HZ.out] at this
          exact this
        obtain ⟨d1, d2, d3⟩ := dec_high (l.drop k) (by rw [at4_dropget l k hkl]; exact h8)
        have hstep := step_le l k hkl
        have hpos := wd_pos (l.drop k)
        have N : Hid ((l.take (k + wd (l.drop k))).all notColon = true) := hideIt (all_step notColon l k _ (by omega) hstep HA.out fun j hj h1 h2 => by
          have := chunk_at l k hkl h8 j h1 h2 hj
          refine decide_eq_true fun h => ?_
          rw [h] at this
          exact absurd this (by decide))
        have hne : (((dec (l.drop k)).1 : Int) == 58) = false := by rw [beq_eq_false_iff_ne]; omega
        have M1 := hideIt (iterPos_at (w.alloc zeroP) (strOf l) k _ HZ.out)
        have M2 := hideIt (iterPos_at (w.alloc zeroP) (strOf l) (k + wd (l.drop k)) _ HZ.out)
        clear d1 d2 d3 h8 hasc
        generalize (dec (l.drop k)).1 = u at *
        generalize wd (l.drop k) = k2 at *
        go_wp2_with fail
        go_roundw
        case rel => exact ⟨k + k2, hstep, rfl, N.out⟩
        case measure => rw [M1.out, M2.out]; omega
    · obtain rfl : k = l.length := by omega
      have hnx : ∀ ty, (Instr.next (.pointer (some ⟨w.heap.size + 1, 0, none⟩)) true ty).run Tryd.prog ((w.alloc zeroP).iter (strOf l) l.length) = .ok (.tuple #[.bool false]) ((w.alloc zeroP).iter (strOf l) l.length) := fun ty => by
        have := run_next_end (P := Tryd.prog) (w.alloc zeroP) (strOf l) l.length ty (by have := HSZ.out; omega)
        rw [HZ.out] at this
        exact this
      have HB := hideIt (below_then (below_new w zeroP) (below_iter (w.alloc zeroP) (strOf l) l.length))
      have HP2 := hideIt (HPZ.out.keep (below_iter (w.alloc zeroP) (strOf l) l.length) (by rw [HZ.out]; omega))
      have E : Hid (Rp = (PairZ, false)) := hideIt (by
        have h1 := HA.out
        rw [List.take_length] at h1
        rw [← HR.out, halvesL, if_neg (colon_no l h1)])
      have q0 := HP2.out.cell0
      have q1 := HP2.out.cell1
      have q2 := HP2.out.open0
      have q3 := HP2.out.open1
      have PS := hideIt (HP2.out.set PairZ)
      have BS := hideIt (below_setP HB.out (Nat.le_refl _) (.string (strOf [])) (.string (strOf [])))
      generalize (w.alloc zeroP).iter (strOf l) l.length = X at *
      go_wp2_with fail
      (try simp only [Exit.inBlock, Exit.then])
      refine bodyPost_ret (results_P Tryd.results67 _ _ w.heap.size PairZ _ rfl rfl (by exact PS.out)) rfl ?_
      exact ⟨by rw [E.out]; rfl, BS.out⟩
theorem go_halves : goFn Tryd.prog 67 = true := by kernel_rfl
end Go.Proofs.YtolikoediafkkaaDoor
