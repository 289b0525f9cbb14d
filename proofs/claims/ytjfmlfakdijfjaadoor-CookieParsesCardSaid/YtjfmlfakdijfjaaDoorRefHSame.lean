/- Contracts of the reference's small, Same. -/
import Derived.Test.YtjfmlfakdijfjaaDoorHeadPlain
import Derived.Test.YtjfmlfakdijfjaaDoorPairCell
import Derived.Deep.Cut
import Derived.Handy
namespace Go.Proofs.YtjfmlfakdijfjaaDoor
open Go.ChangeShapes Go.WideShapes Go.ChangeAt Go.RowKit
set_option linter.unusedVariables false
set_option linter.unusedSimpArgs false

theorem small_big (c : UInt8) (h : 65 ≤ c.toNat ∧ c.toNat ≤ 90) : (smallB c).toNat = c.toNat + 32 := by
  revert h
  refine each_byte (p := fun c => 65 ≤ c.toNat ∧ c.toNat ≤ 90 → (smallB c).toNat = c.toNat + 32) ?_ c
  decide +kernel
theorem small_not (c : UInt8) (h : ¬ (65 ≤ c.toNat ∧ c.toNat ≤ 90)) : (smallB c).toNat = c.toNat := by
  revert h
  refine each_byte (p := fun c => ¬ (65 ≤ c.toNat ∧ c.toNat ≤ 90) → (smallB c).toNat = c.toNat) ?_ c
  decide +kernel
set_option maxHeartbeats 1000000 in
theorem refsmall_any (c : UInt8) (w : World) :
    Calls Tryd.prog 70 #[.int .u8 (c.toNat : Int)] w fun e w' => e = .returned (.int .u8 ((smallB c).toNat : Int)) ∧ w = w' := by
  have hcl := c.toNat_lt
  have HB := hideIt (small_big c)
  have HN := hideIt (small_not c)
  generalize (smallB c).toNat = s at *
  generalize c.toNat = u at *
  rcases (by omega : u < 65 ∨ (65 ≤ u ∧ u ≤ 90) ∨ 90 < u) with h1 | h1 | h1
  · have E := hideIt (HN.out (by omega))
    have q1 : ¬ (65 : Int) ≤ (u : Int) := by omega
    clear h1 HB HN
    go_enter Tryd.func70, Tryd.ntmps70
    go_wp2_with fail
    go_ret
    exact ⟨by rw [E.out]; rfl, rfl⟩
  · have E := hideIt (HB.out h1)
    have q1 : (65 : Int) ≤ (u : Int) := by omega
    have q2 : (u : Int) ≤ 90 := by omega
    have hw : IntKind.u8.wrap ((u : Int) + 32) = (u : Int) + 32 := by rw [IntKind.wrap_u8']; omega
    clear h1 HB HN
    go_enter Tryd.func70, Tryd.ntmps70
    go_wp2_with fail
    go_ret
    exact ⟨by rw [E.out]; simp, rfl⟩
  · have E := hideIt (HN.out (by omega))
    have q1 : (65 : Int) ≤ (u : Int) := by omega
    have q2 : ¬ (u : Int) ≤ 90 := by omega
    clear h1 HB HN
    go_enter Tryd.func70, Tryd.ntmps70
    go_wp2_with fail
    go_ret
    exact ⟨by rw [E.out]; rfl, rfl⟩
theorem go_refsmall : goFn Tryd.prog 70 = true := by kernel_rfl
theorem same_step {a b : List UInt8} {j : Nat} (h : smallL (a.take j) = smallL (b.take j)) (h1 : j < a.length) (h2 : j < b.length) (e : smallB a[j] = smallB b[j]) : smallL (a.take (j + 1)) = smallL (b.take (j + 1)) := by
  unfold smallL at h ⊢
  rw [List.take_succ_eq_append_getElem h1, List.take_succ_eq_append_getElem h2, List.map_append, List.map_append, h]
  simp [e]
theorem same_miss {a b : List UInt8} {j : Nat} (h1 : j < a.length) (h2 : j < b.length) (e : ¬ smallB a[j] = smallB b[j]) : sameL a b = false := by
  refine decide_eq_false fun h => e ?_
  have := congrArg (fun l : List UInt8 => l[j]?) h
  simpa [smallL, List.getElem?_map, List.getElem?_eq_getElem h1, List.getElem?_eq_getElem h2] using this
theorem same_end {a b : List UInt8} (hl : a.length = b.length) (h : smallL (a.take a.length) = smallL (b.take a.length)) : sameL a b = true := by
  rw [List.take_length, hl, List.take_length] at h
  exact decide_eq_true h
set_option maxRecDepth 8000 in
set_option maxHeartbeats 2000000 in
theorem refsame8_any (la lb : List UInt8) (w : World) (hl : la.length = lb.length → la.length ≤ 1000000) (ha : la.length ≤ 140737488355328) (hb : lb.length ≤ 140737488355328) :
    Calls Tryd.prog 56 #[.string (strOf la), .string (strOf lb)] w fun e w' => e = .returned (.bool (sameL la lb)) ∧ Below w.heap.size w w' := by
  have z1 := strOf_size la
  have z2 := strOf_size lb
  by_cases hlen : la.length = lb.length
  · have hla := hl hlen
    have HLEN := hideIt hlen
    obtain ⟨R, hR⟩ : ∃ R, sameL la lb = R := ⟨_, rfl⟩
    rw [hR]
    have HR := hideIt hR
    have hi : ((la.length : Int) == (lb.length : Int)) = true := by rw [beq_iff_eq]; omega
    clear hR hl ha hb hlen
    go_enter Tryd.func56, Tryd.ntmps56
    go_wp2
    go_loopw [5] (fun i wr => ∃ j : Nat, j ≤ la.length ∧ i = .int .i64 (j : Int) ∧ smallL (la.take j) = smallL (lb.take j) ∧ Below w.heap.size w wr) (fun i wr => la.length - (intOf i).toNat)
    case atStart => exact ⟨0, by omega, rfl, rfl, Below.refl _ _⟩
    case round =>
      obtain ⟨j, hj, rfl, ht, hbw⟩ := hrel
      have HT := hideIt ht
      have HBW := hideIt hbw
      clear ht hbw
      have hwj : IntKind.i64.wrap ((j : Int) + 1) = (j : Int) + 1 := IntWalk.i64_in _ (by omega)
      by_cases hlt : j < la.length
      · have hlt' : (j : Int) < (la.length : Int) := by omega
        have hlb : j < lb.length := by have := HLEN.out; omega
        obtain ⟨ca, hca⟩ : ∃ c, la[j]? = some c := ⟨_, List.getElem?_eq_getElem hlt⟩
        obtain ⟨cb, hcb⟩ : ∃ c, lb[j]? = some c := ⟨_, List.getElem?_eq_getElem hlb⟩
        have Hca := hideIt hca
        have Hcb := hideIt hcb
        have ea : la[j] = ca := (List.getElem?_eq_some_iff.1 hca).2
        have eb : lb[j] = cb := (List.getElem?_eq_some_iff.1 hcb).2
        by_cases he : smallB ca = smallB cb
        · have HN := hideIt (same_step HT.out hlt hlb (by rw [ea, eb]; exact he))
          have HD : Hid (decide (((smallB ca).toNat : Int) = ((smallB cb).toNat : Int)) = true) := hideIt (by rw [he]; simp)
          clear he hlb hca hcb ea eb
          go_wp2_with fail
          refine region_inv [Fact.str (la), Fact.is (.int .i64 ((j : Nat) : Int)), Fact.is (.int .u8 ((ca).toNat : Int)), Fact.is (.int .u8 ((smallB ca).toNat : Int)), Fact.str (lb), Fact.is (.int .i64 ((j : Nat) : Int)), Fact.is (.int .u8 ((cb).toNat : Int)), Fact.is (.int .u8 ((smallB cb).toNat : Int)), Fact.is (.bool false)] (by kernel_rfl) (by kernel_rfl) ⟨fun a w1 m => ?_, fun a w1 m => ?_, fun a w1 m => ?_, fun a w1 m => ?_, fun a w1 m => ?_, fun a w1 m => ?_, fun a w1 m => ?_, fun a w1 m => ?_, fun a w1 m => ?_, trivial⟩ ?_
          · exact ok_move (wanted_none rfl) (.tmp 0) rfl (m.old 0 rfl)
          · exact ok_move (wanted_none rfl) (.tmp 5) rfl (m.old 5 rfl)
          · exact ok_strindex (wanted_none rfl) (.tmp 17) (.tmp 18) rfl la .i64 j (m.has 0 17 rfl rfl) (m.has 1 18 rfl rfl) _ Hca.out
          · exact ok_fn (wanted_none rfl) _ _ _ rfl _ (map1 (m.has 2 19 rfl rfl)) go_refsmall (refsmall_any ca w1) (fun e w' ⟨h1, h2⟩ => ⟨_, h1, rfl, h2 ▸ Grew.refl _⟩)
          · exact ok_move (wanted_none rfl) (.tmp 1) rfl (m.old 1 rfl)
          · exact ok_move (wanted_none rfl) (.tmp 5) rfl (m.old 5 rfl)
          · exact ok_strindex (wanted_none rfl) (.tmp 21) (.tmp 22) rfl lb .i64 j (m.has 4 21 rfl rfl) (m.has 5 22 rfl rfl) _ Hcb.out
          · exact ok_fn (wanted_none rfl) _ _ _ rfl _ (map1 (m.has 6 23 rfl rfl)) go_refsmall (refsmall_any cb w1) (fun e w' ⟨h1, h2⟩ => ⟨_, h1, rfl, h2 ▸ Grew.refl _⟩)
          · exact ok_u8ne (wanted_none rfl) (.tmp 20) (.tmp 24) _ rfl _ _ (m.has 3 20 rfl rfl) (m.has 7 24 rfl rfl) false HD.out
          intro f w9 hg hf
          have e8 : f 8 = .bool false := hf 8 (by decide)
          have B9 := hideIt (below_then HBW.out hg)
          clear hf
          simp only [List.take, List.drop, putAll, Act.put, List.setIfInBounds_toArray, List.set_cons_succ, List.set_cons_zero]
          rw [e8]
          clear e8
          go_wp2_with fail
          go_roundw
          case rel => exact ⟨j + 1, by omega, by go_num, HN.out, B9.out⟩
          case measure => simp [intOf]; omega
        · have HF : Hid (R = false) := hideIt (by rw [← HR.out]; exact same_miss hlt hlb (by rw [ea, eb]; exact he))
          have HD : Hid (decide (((smallB ca).toNat : Int) = ((smallB cb).toNat : Int)) = false) := hideIt (decide_eq_false fun h => he (UInt8.toNat_inj.1 (by omega)))
          clear he hlb hca hcb ea eb
          go_wp2_with fail
          refine region_inv [Fact.str (la), Fact.is (.int .i64 ((j : Nat) : Int)), Fact.is (.int .u8 ((ca).toNat : Int)), Fact.is (.int .u8 ((smallB ca).toNat : Int)), Fact.str (lb), Fact.is (.int .i64 ((j : Nat) : Int)), Fact.is (.int .u8 ((cb).toNat : Int)), Fact.is (.int .u8 ((smallB cb).toNat : Int)), Fact.is (.bool true)] (by kernel_rfl) (by kernel_rfl) ⟨fun a w1 m => ?_, fun a w1 m => ?_, fun a w1 m => ?_, fun a w1 m => ?_, fun a w1 m => ?_, fun a w1 m => ?_, fun a w1 m => ?_, fun a w1 m => ?_, fun a w1 m => ?_, trivial⟩ ?_
          · exact ok_move (wanted_none rfl) (.tmp 0) rfl (m.old 0 rfl)
          · exact ok_move (wanted_none rfl) (.tmp 5) rfl (m.old 5 rfl)
          · exact ok_strindex (wanted_none rfl) (.tmp 17) (.tmp 18) rfl la .i64 j (m.has 0 17 rfl rfl) (m.has 1 18 rfl rfl) _ Hca.out
          · exact ok_fn (wanted_none rfl) _ _ _ rfl _ (map1 (m.has 2 19 rfl rfl)) go_refsmall (refsmall_any ca w1) (fun e w' ⟨h1, h2⟩ => ⟨_, h1, rfl, h2 ▸ Grew.refl _⟩)
          · exact ok_move (wanted_none rfl) (.tmp 1) rfl (m.old 1 rfl)
          · exact ok_move (wanted_none rfl) (.tmp 5) rfl (m.old 5 rfl)
          · exact ok_strindex (wanted_none rfl) (.tmp 21) (.tmp 22) rfl lb .i64 j (m.has 4 21 rfl rfl) (m.has 5 22 rfl rfl) _ Hcb.out
          · exact ok_fn (wanted_none rfl) _ _ _ rfl _ (map1 (m.has 6 23 rfl rfl)) go_refsmall (refsmall_any cb w1) (fun e w' ⟨h1, h2⟩ => ⟨_, h1, rfl, h2 ▸ Grew.refl _⟩)
          · exact ok_u8ne (wanted_none rfl) (.tmp 20) (.tmp 24) _ rfl _ _ (m.has 3 20 rfl rfl) (m.has 7 24 rfl rfl) true HD.out
          intro f w9 hg hf
          have e8 : f 8 = .bool true := hf 8 (by decide)
          have B9 := hideIt (below_then HBW.out hg)
          clear hf
          simp only [List.take, List.drop, putAll, Act.put, List.setIfInBounds_toArray, List.set_cons_succ, List.set_cons_zero]
          rw [e8]
          clear e8
          go_wp2_with fail
          go_ret
          exact ⟨by rw [HF.out]; rfl, B9.out⟩
      · obtain rfl : j = la.length := by omega
        have hlt' : ¬ (la.length : Int) < (la.length : Int) := by omega
        have HF : Hid (R = true) := hideIt (by rw [← HR.out]; exact same_end HLEN.out HT.out)
        go_wp2_with fail
        go_ret
        exact ⟨by rw [HF.out]; rfl, HBW.out⟩
  · have e : sameL la lb = false := same_len hlen
    rw [e]
    have hne : ((la.length : Int) == (lb.length : Int)) = false := by rw [beq_eq_false_iff_ne]; omega
    clear e hlen hl
    go_enter Tryd.func56, Tryd.ntmps56
    go_wp2
    go_ret
    exact ⟨rfl, Below.refl _ _⟩
theorem go_refsame8 : goFn Tryd.prog 56 = true := by kernel_rfl
end Go.Proofs.YtjfmlfakdijfjaaDoor
