/- The contract of the reference's Bytes, ID and Of. -/
import Derived.Test.YtmhiclangfhhcaaRefHexText
namespace Go.Proofs.Ytmhiclangfhhcaa
open Go.ChangeShapes Go.WideShapes Go.ChangeAt Go.RowKit
set_option linter.unusedVariables false
set_option linter.unusedSimpArgs false

theorem run_mul16 (p : Nat) (hp : p < 16) (w : World) : (binOp .mul 3 (.int .i64 16) (.int .i64 (p : Int))).run Try.prog w = .ok (.int .i64 ((16 * p : Nat) : Int)) w := by
  have h2 : IntKind.i64.wrap (16 * (p : Int)) = 16 * (p : Int) := IntWalk.i64_in _ (by omega)
  go_simp
theorem run_inc (i : Nat) (hi : i < 1000000000) (w : World) : (binOp .add 3 (.int .i64 (i : Int)) (.int .i64 1)).run Try.prog w = .ok (.int .i64 ((i + 1 : Nat) : Int)) w := by
  have h2 : IntKind.i64.wrap ((i : Int) + 1) = (i : Int) + 1 := IntWalk.i64_in _ (by omega)
  go_simp
theorem run_addn (p q : Nat) (hp : p < 1000000000) (hq : q < 1000000000) (w : World) : (binOp .add 3 (.int .i64 (p : Int)) (.int .i64 (q : Int))).run Try.prog w = .ok (.int .i64 ((p + q : Nat) : Int)) w := by
  have h2 : IntKind.i64.wrap ((p : Int) + (q : Int)) = (p : Int) + (q : Int) := IntWalk.i64_in _ (by omega)
  go_simp
theorem run_tobyte (p : Nat) (hp : p < 256) (w : World) : (convert 3 5 (.int .i64 (p : Int))).run Try.prog w = .ok (.int .u8 ((UInt8.ofNat p).toNat : Int)) w := by
  have e : (UInt8.ofNat p).toNat = p := by rw [UInt8.toNat_ofNat']; omega
  have h2 : IntKind.u8.wrap (p : Int) = (p : Int) := by rw [IntKind.wrap_u8']; omega
  rw [e]
  go_simp
/-- what the reference's Bytes answers -/
def RefTold (w : World) (l : List UInt8) (e : Ending) (w' : World) : Prop :=
  (okL l = true ∧ ∃ v, e = .returned (.tuple #[v, .bool true]) ∧ w'.ownsRow w.heap.size 5 1 v (l.length / 2) (cellsOf (unL l)) ∧ Below w.heap.size w w') ∨
  (okL l = false ∧ e = .returned (.tuple #[.slice none 0 0, .bool false]) ∧ Below w.heap.size w w')
set_option maxHeartbeats 1000000 in
theorem refbytes_any (l : List UInt8) (w : World) (hl : l.length ≤ 10000) :
    Calls Try.prog 18 #[.string (strOf l)] w fun e w' => RefTold w l e w' := by
  have hsz := strOf_size l
  go_enter Try.func18, Try.ntmps18
  go_wp2
  go_loopw [4, 5] (fun v i' wr => ∃ j : Nat, 2 * j ≤ l.length ∧ i' = .int .i64 ((2 * j : Nat) : Int) ∧ wr.ownsRow w.heap.size 5 1 v j (cellsOf (unL (l.take (2 * j)))) ∧ (l.take (2 * j)).all isHex = true ∧ Below w.heap.size w wr) (fun _ i _ => l.length - (intOf i).toNat)
  case atStart => exact ⟨0, by omega, rfl, own_none _ _ _, rfl, Below.refl _ _⟩
  case round =>
    obtain ⟨j, hj, rfl, ho, ha, hb⟩ := hrel
    have HO := hideIt ho
    have HA := hideIt ha
    have HB := hideIt hb
    clear ho ha hb
    generalize hi2 : 2 * j = i at *
    have HI2 := hideIt hi2
    have hi9 : i < 1000000000 := by omega
    have hw1 : IntKind.i64.wrap ((i : Int) + 1) = (i : Int) + 1 := IntWalk.i64_in _ (by omega)
    clear hi2
    by_cases hlt : i + 1 < l.length
    · have hlt' : (i : Int) + 1 < (l.length : Int) := by omega
      obtain ⟨c0, hc0⟩ : ∃ c, l[i]? = some c := ⟨_, List.getElem?_eq_getElem (by omega)⟩
      obtain ⟨c1, hc1⟩ : ∃ c, l[i + 1]? = some c := ⟨_, List.getElem?_eq_getElem hlt⟩
      have hx0 : ∀ w, (Instr.index 9 (.string (strOf l)) (.int .i64 (i : Int))).run Try.prog w = .ok (.int .u8 (c0.toNat : Int)) w := fun w => by
        obtain ⟨h1, h2⟩ := List.getElem?_eq_some_iff.1 hc0
        have := run_index_str w l .i64 i h1
        rwa [h2] at this
      have hx1 : ∀ w, (Instr.index 9 (.string (strOf l)) (.int .i64 ((i : Int) + 1))).run Try.prog w = .ok (.int .u8 (c1.toNat : Int)) w := fun w => by
        obtain ⟨h1, h2⟩ := List.getElem?_eq_some_iff.1 hc1
        have := run_index_str w l .i64 (i + 1) h1
        rwa [h2] at this
      have D0 := hideIt (refdigit_any c0)
      have D1 := hideIt (refdigit_any c1)
      have C0 := hideIt hc0
      have C1 := hideIt hc1
      by_cases h0 : isHex c0 = true
      · have hp := (hexV_facts c0 h0).1
        have Hp : digV c0 = (hexV c0 : Int) := by rw [digV, if_pos h0]
        by_cases h1 : isHex c1 = true
        · have hq := (hexV_facts c1 h1).1
          have Hq : digV c1 = (hexV c1 : Int) := by rw [digV, if_pos h1]
          have ht : l.take (i + 2) = l.take i ++ [c0, c1] := by
            obtain ⟨q1, q2⟩ := List.getElem?_eq_some_iff.1 hc0
            obtain ⟨q3, q4⟩ := List.getElem?_eq_some_iff.1 hc1
            rw [show i + 2 = i + 1 + 1 from rfl, List.take_succ_eq_append_getElem q3, List.take_succ_eq_append_getElem q1, q2, q4]; simp
          have hli : (l.take i).length % 2 = 0 := by rw [List.length_take]; have := HI2.out; omega
          have HU := hideIt (unL_snoc (l.take i) c0 c1 hli)
          rw [← ht] at HU
          have HA2 : Hid ((l.take (i + 2)).all isHex = true) := hideIt (by rw [ht, List.all_append, HA.out]; simp [h0, h1])
          clear ht hli
          have HE0 := hideIt Hp
          have HE1 := hideIt Hq
          generalize hexV c0 = p at *
          generalize hexV c1 = q at *
          have hp0 : ¬ (p : Int) < 0 := by omega
          have hq0 : ¬ (q : Int) < 0 := by omega
          clear Hp Hq hc0 hc1 h0 h1
          go_wp2_with fail
          refine (D0.out _).mono ?_
          rintro e w2 ⟨rfl, rfl⟩
          rw [HE0.out]
          go_wp2_with fail
          refine (D1.out _).mono ?_
          rintro e w2 ⟨rfl, rfl⟩
          rw [HE1.out]
          go_wp2_with fail
          have Hp := HE0.out
          have Hq := HE1.out
          have hc0 := C0.out
          have hc1 := C1.out
          refine region_tail 14 [Fact.is (u4), Fact.is (.string (strOf l)), Fact.is (.int .i64 (i : Int)), Fact.is (.int .u8 (c0.toNat : Int)), Fact.is (.int .i64 (p : Int)), Fact.is (.int .i64 ((16 * p : Nat) : Int)), Fact.is (.string (strOf l)), Fact.is (.int .i64 (i : Int)), Fact.is (.int .i64 ((i + 1 : Nat) : Int)), Fact.is (.int .u8 (c1.toNat : Int)), Fact.is (.int .i64 (q : Int)), Fact.is (.int .i64 ((16 * p + q : Nat) : Int)), Fact.is (.int .u8 ((UInt8.ofNat (16 * p + q)).toNat : Int)), Fact.piece ([UInt8.ofNat (16 * p + q)])] (by kernel_rfl) (by kernel_rfl) (by kernel_rfl) ⟨fun a w1 m => ?_, fun a w1 m => ?_, fun a w1 m => ?_, fun a w1 m => ?_, fun a w1 m => ?_, fun a w1 m => ?_, fun a w1 m => ?_, fun a w1 m => ?_, fun a w1 m => ?_, fun a w1 m => ?_, fun a w1 m => ?_, fun a w1 m => ?_, fun a w1 m => ?_, fun a w1 m => ?_, trivial⟩ ?_
          · exact ok_move (wanted_none rfl) (.tmp 4) rfl (m.old 4 rfl)
          · exact ok_move (wanted_none rfl) (.tmp 0) rfl (m.old 0 rfl)
          · exact ok_move (wanted_none rfl) (.tmp 5) rfl (m.old 5 rfl)
          · exact ok_strindex (wanted_none rfl) (.tmp 27) (.tmp 28) rfl l .i64 i (m.has 1 27 rfl rfl) (m.has 2 28 rfl rfl) _ hc0
          · exact ok_fn (wanted_none rfl) _ _ _ rfl _ (map1 (m.has 3 29 rfl rfl)) go_refdigit (refdigit_any c0 w1) (fun e w' ⟨h1, h2⟩ => ⟨_, h1, congrArg _ Hp, h2 ▸ Grew.refl _⟩)
          · exact ok_bin (wanted_none rfl) _ _ _ _ (.tmp 30) rfl _ _ _ rfl (m.has 4 30 rfl rfl) rfl (run_mul16 p hp)
          · exact ok_move (wanted_none rfl) (.tmp 0) rfl (m.old 0 rfl)
          · exact ok_move (wanted_none rfl) (.tmp 5) rfl (m.old 5 rfl)
          · exact ok_bin (wanted_none rfl) _ _ _ (.tmp 33) _ rfl _ _ _ (m.has 7 33 rfl rfl) rfl rfl (run_inc i hi9)
          · exact ok_strindex (wanted_none rfl) (.tmp 32) (.tmp 34) rfl l .i64 (i + 1) (m.has 6 32 rfl rfl) (m.has 8 34 rfl rfl) _ hc1
          · exact ok_fn (wanted_none rfl) _ _ _ rfl _ (map1 (m.has 9 35 rfl rfl)) go_refdigit (refdigit_any c1 w1) (fun e w' ⟨h1, h2⟩ => ⟨_, h1, congrArg _ Hq, h2 ▸ Grew.refl _⟩)
          · exact ok_bin (wanted_none rfl) _ _ _ (.tmp 31) (.tmp 36) rfl _ _ _ (m.has 5 31 rfl rfl) (m.has 10 36 rfl rfl) rfl (run_addn (16 * p) q (by omega) (by omega))
          · exact ok_conv (wanted_none rfl) _ _ (.tmp 37) rfl _ (by rw [show a.eval (.tmp 37) = _ from m.has 11 37 rfl rfl]; exact run_tobyte (16 * p + q) (by omega) w1) rfl
          · exact ok_buildB1 (wanted_none rfl) (.tmp 38) rfl _ (m.has 12 38 rfl rfl)
          intro f w6 hg6 hf
          have f0 : f 0 = u4 := hf 0 (by decide)
          obtain ⟨A7, c7, h7, p7⟩ := hf 13 (by decide)
          have o6 := own_stay HO.out hg6
          have b6 := below_then HB.out hg6
          simp only [List.take, List.drop, putAll, Act.put, List.setIfInBounds_toArray, List.set_cons_succ, List.set_cons_zero]
          refine wpList_app rfl (.tmp 26) (.tmp 39) rfl w.heap.size u4 j (unL (l.take i)) f0 o6 A7 1 c7 w6.heap.size _ h7 rfl p7.nil p7.bytes (by have := HI2.out; omega) b6.size ?_
          intro v7 w7 o7 g7
          have O7 : Hid (w7.ownsRow w.heap.size 5 1 v7 (j + 1) (cellsOf (unL (l.take (i + 2))))) := hideIt (by rw [HU.out]; exact o7)
          have B7 : Hid (Below w.heap.size w w7) := hideIt (b6.grown g7 b6.size (fun k hk => (o6.lt k hk).1))
          have hw2 : IntKind.i64.wrap ((i : Int) + 2) = (i : Int) + 2 := IntWalk.i64_in _ (by omega)
          clear o7 g7 b6 o6 p7 hf hg6
          go_wp2_with fail
          go_roundw
          case rel => exact ⟨j + 1, by have := HI2.out; omega, by rw [Nat.mul_add, HI2.out]; rfl, by rw [Nat.mul_add, HI2.out]; exact O7.out, by rw [Nat.mul_add, HI2.out]; exact HA2.out, B7.out⟩
          case measure => simp [intOf]; omega
        · have E : Hid (okL l = false) := hideIt (by
            obtain ⟨q1, q2⟩ := List.getElem?_eq_some_iff.1 hc1
            exact okL_bad l (i + 1) q1 (by rw [q2]; simpa using h1))
          have HE0 := hideIt Hp
          have HE1 : Hid (digV c1 = -1) := hideIt (by rw [digV, if_neg h1])
          generalize hexV c0 = p at *
          have hp0 : ¬ (p : Int) < 0 := by omega
          clear Hp hc0 hc1 h0 h1 C0 C1
          go_wp2_with fail
          refine (D0.out _).mono ?_
          rintro e w2 ⟨rfl, rfl⟩
          rw [HE0.out]
          go_wp2_with fail
          refine (D1.out _).mono ?_
          rintro e w2 ⟨rfl, rfl⟩
          rw [HE1.out]
          go_wp2_with fail
          go_ret2
          exact .inr ⟨E.out, rfl, HB.out⟩
      · have E : Hid (okL l = false) := hideIt (by
          obtain ⟨q1, q2⟩ := List.getElem?_eq_some_iff.1 hc0
          exact okL_bad l i q1 (by rw [q2]; simpa using h0))
        have HE0 : Hid (digV c0 = -1) := hideIt (by rw [digV, if_neg h0])
        clear hc0 hc1 h0 C0 C1
        go_wp2_with fail
        refine (D0.out _).mono ?_
        rintro e w2 ⟨rfl, rfl⟩
        rw [HE0.out]
        go_wp2_with fail
        go_ret2
        exact .inr ⟨E.out, rfl, HB.out⟩
    · have hlt' : ¬ (i : Int) + 1 < (l.length : Int) := by omega
      by_cases hodd : l.length % 2 = 1
      · have E := hideIt (okL_odd l hodd)
        have h1 : Int.tmod (l.length : Int) 2 = 1 := by rw [Int.tmod_eq_emod_of_nonneg (by omega)]; omega
        go_wp2_with fail
        go_ret2
        exact .inr ⟨E.out, rfl, HB.out⟩
      · have h1 : Int.tmod (l.length : Int) 2 = 0 := by rw [Int.tmod_eq_emod_of_nonneg (by omega)]; omega
        have hi : i = l.length := by have := HI2.out; omega
        have Rr : Hid (RefTold w l (.returned (.tuple #[u4, .bool true])) wr) := hideIt (.inl (by
          have h3 := HA.out
          have h4 := HO.out
          rw [hi, List.take_of_length_le (Nat.le_refl _)] at h3 h4
          have h5 : l.length / 2 = j := by have := HI2.out; omega
          rw [h5]
          exact ⟨by rw [okL, h3, decide_eq_true (by omega)]; rfl, u4, rfl, h4, HB.out⟩))
        clear hi
        go_wp2_with fail
        go_ret2
        exact Rr.out
theorem go_refbytes : goFn Try.prog 18 = true := by kernel_rfl
end Go.Proofs.Ytmhiclangfhhcaa
