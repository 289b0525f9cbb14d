/- The contract of the reference's Split. -/
import Derived.Test.YtbojigimldfghaaDoorSplitPlain
import Derived.Test.YtbojigimldfghaaDoorTexts
import Derived.Test.YtbojigimldfghaaDoorStrRun
import Derived.Test.YtbojigimldfghaaDoorCmp
import Derived.Deep.Cut
import Derived.Handy
namespace Go.Proofs.YtbojigimldfghaaDoor
open Go.ChangeShapes Go.WideShapes Go.ChangeAt Go.RowKit
set_option linter.unusedVariables false
set_option linter.unusedSimpArgs false

/-- how Split stands -/
def SpSt (l : List UInt8) (sp : UInt8) (k fr : Nat) (ps : List (List UInt8)) : Prop :=
  (k ≤ l.length ∧ fr ≤ k ∧ (∀ j, fr ≤ j → j < k → l.getD j 0 ≠ sp) ∧ splitL sp l = ps ++ splitL sp (l.drop fr)) ∨ (k = l.length + 1 ∧ splitL sp l = ps)
theorem drop_getD (l : List UInt8) (a j : Nat) : (l.drop a).getD j 0 = l.getD (a + j) 0 := by simp [List.getD, List.getElem?_drop]
theorem cut_free {l : List UInt8} {sp : UInt8} {k fr : Nat} (hk : k ≤ l.length) (hf : fr ≤ k) (h : ∀ j, fr ≤ j → j < k → l.getD j 0 ≠ sp) : sp ∉ (l.drop fr).take (k - fr) :=
  notmem_of (by rw [List.length_drop]; omega) fun j hj => by rw [drop_getD]; exact h _ (by omega) (by omega)
theorem SpSt.last {l : List UInt8} {sp : UInt8} {fr : Nat} {ps : List (List UInt8)} (h : SpSt l sp l.length fr ps) : splitL sp l = ps ++ [(l.drop fr).take (l.length - fr)] := by
  rcases h with ⟨h1, h2, h3, h4⟩ | ⟨h1, _⟩
  · have := cut_free h1 h2 h3
    have e : (l.drop fr).take (l.length - fr) = l.drop fr := List.take_of_length_le (by rw [List.length_drop]; omega)
    rw [e] at this ⊢
    rw [h4, split_none sp _ this]
  · omega
theorem SpSt.hit {l : List UInt8} {sp : UInt8} {k fr : Nat} {ps : List (List UInt8)} (h : SpSt l sp k fr ps) (hk : k < l.length) (hc : l.getD k 0 = sp) : SpSt l sp (k + 1) (k + 1) (ps ++ [(l.drop fr).take (k - fr)]) := by
  rcases h with ⟨h1, h2, h3, h4⟩ | ⟨h1, _⟩
  · have := cut_free h1 h2 h3
    refine .inl ⟨hk, Nat.le_refl _, fun j hj hj2 => by omega, ?_⟩
    have e : l.drop fr = (l.drop fr).take (k - fr) ++ sp :: l.drop (k + 1) := by
      conv => lhs; rw [← List.take_append_drop (k - fr) (l.drop fr)]
      rw [List.drop_drop, show fr + (k - fr) = k by omega, List.drop_eq_getElem_cons hk]
      have : l[k] = sp := by rw [← hc]; simp [List.getD, hk]
      rw [this]
    generalize (l.drop fr).take (k - fr) = y at *
    rw [h4, e, split_append, split_none sp _ this]
    simp
  · omega
theorem SpSt.miss {l : List UInt8} {sp : UInt8} {k fr : Nat} {ps : List (List UInt8)} (h : SpSt l sp k fr ps) (hk : k < l.length) (hc : l.getD k 0 ≠ sp) : SpSt l sp (k + 1) fr ps := by
  rcases h with ⟨h1, h2, h3, h4⟩ | ⟨h1, _⟩
  · refine .inl ⟨hk, by omega, fun j hj hj2 => ?_, h4⟩
    rcases Nat.lt_or_ge j k with hh | hh
    · exact h3 j hj hh
    · obtain rfl : j = k := by omega
      exact hc
  · omega
theorem SpSt.le {l : List UInt8} {sp : UInt8} {k fr : Nat} {ps : List (List UInt8)} (h : SpSt l sp k fr ps) (hk : k ≤ l.length) : fr ≤ k := by
  rcases h with ⟨_, h2, _⟩ | ⟨h1, _⟩
  · exact h2
  · omega
set_option maxRecDepth 8000 in
set_option maxHeartbeats 4000000 in
theorem refsplit_any (l : List UInt8) (sp : UInt8) (si : Int) (hsi : (sp.toNat : Int) = si) (w : World) (hl : l.length ≤ 100000) :
    Calls Tryd.prog 41 #[.string (strOf l), .int .u8 si] w fun e w' => ∃ v, e = .returned v ∧ SOwn w.heap.size v (splitL sp l) w' ∧ Below w.heap.size w w' := by
  have hsz := strOf_size l
  have HSI := hideIt hsi
  clear hsi
  go_enter Tryd.func41, Tryd.ntmps41
  go_wp2
  go_loopw [5, 6, 7] (fun v fv iv wr => ∃ (k fr : Nat) (ps : List (List UInt8)), k ≤ l.length + 1 ∧ iv = .int .i64 (k : Int) ∧ fv = .int .i64 (fr : Int) ∧ SOwn w.heap.size v ps wr ∧ SpSt l sp k fr ps ∧ ps.length ≤ k ∧ Below w.heap.size w wr) (fun _ _ i _ => l.length + 1 - (intOf i).toNat)
  case atStart => exact ⟨0, 0, [], by omega, rfl, rfl, SOwn.nil _ _, .inl ⟨by omega, by omega, fun j _ h => by omega, by simp⟩, by simp, Below.refl _ _⟩
  case round =>
    obtain ⟨k, fr, ps, hk, rfl, rfl, ho, hst, hpl, hb⟩ := hrel
    have HO := hideIt ho
    have HS := hideIt hst
    have HB := hideIt hb
    clear ho hst hb
    have hwk : IntKind.i64.wrap ((k : Int) + 1) = (k : Int) + 1 := IntWalk.i64_in _ (by omega)
    by_cases hle : k ≤ l.length
    · have hle' : (k : Int) ≤ (l.length : Int) := by omega
      have hfr := HS.out.le hle
      obtain ⟨y, hy⟩ : ∃ y, (l.drop fr).take (k - fr) = y := ⟨_, rfl⟩
      have hsl : ∀ w, (Instr.slice 9 (.string (strOf l)) (some (.int .i64 (fr : Int))) (some (.int .i64 (k : Int))) none).run Tryd.prog w = .ok (.string (strOf y)) w := fun w => by
        have := run_slice_str w l (some (.int .i64 (fr : Int))) (some (.int .i64 (k : Int))) .i64 .i64 fr k (.inr rfl) (.inr rfl) hfr hle
        rwa [hy] at this
      have HY := hideIt hy
      clear hy
      by_cases heq : k = l.length
      · subst heq
        have E : Hid (splitL sp l = ps ++ [y]) := hideIt (by rw [← HY.out]; exact HS.out.last)
        go_wp2_with (at_builtin; refine wpList_appT1 rfl (.tmp 25) (.tmp 30) rfl w.heap.size _ ps y rfl HO.out rfl (by omega) HB.out.size ?_)
        intro v7 w7 o7 g7
        have O7 := hideIt o7
        have B7 : Hid (Below w.heap.size w w7) := hideIt (HB.out.trans (g7 _ (Nat.le_refl _)))
        clear o7 g7
        go_wp2_with fail
        go_roundw
        case rel => exact ⟨l.length + 1, l.length + 1, ps ++ [y], by omega, by go_num, by go_num, O7.out, .inr ⟨rfl, E.out⟩, by simp; omega, B7.out⟩
        case measure => simp [intOf]
      · have hne : ((k : Int) == (l.length : Int)) = false := by rw [beq_eq_false_iff_ne]; omega
        have hlt : k < l.length := by omega
        have HLT := hideIt hlt
        obtain ⟨cc, hcc⟩ : ∃ c, l[k]? = some c := ⟨_, List.getElem?_eq_getElem hlt⟩
        have hix : ∀ w, (Instr.index 9 (.string (strOf l)) (.int .i64 (k : Int))).run Tryd.prog w = .ok (.int .u8 (cc.toNat : Int)) w := fun w => by
          obtain ⟨h1, h2⟩ := List.getElem?_eq_some_iff.1 hcc
          have := run_index_str w l .i64 k h1
          rwa [h2] at this
        have HG : Hid (l.getD k 0 = cc) := hideIt (by simp [List.getD, hcc])
        clear hcc heq
        by_cases hc : cc = sp
        · have S2 : Hid (SpSt l sp (k + 1) (k + 1) (ps ++ [y])) := hideIt (by rw [← HY.out]; exact HS.out.hit HLT.out (by rw [HG.out, hc]))
          have hq : ((cc.toNat : Int) == si) = true := by rw [hc, HSI.out]; simp
          clear hc
          generalize (cc.toNat : Int) = ci at *
          go_wp2_with (at_builtin; refine wpList_appT1 rfl (.tmp 25) (.tmp 30) rfl w.heap.size _ ps y rfl HO.out rfl (by omega) HB.out.size ?_)
          intro v7 w7 o7 g7
          have O7 := hideIt o7
          have B7 : Hid (Below w.heap.size w w7) := hideIt (HB.out.trans (g7 _ (Nat.le_refl _)))
          clear o7 g7
          go_wp2_with fail
          go_roundw
          case rel => exact ⟨k + 1, k + 1, ps ++ [y], by omega, by go_num, by go_num, O7.out, S2.out, by simp; omega, B7.out⟩
          case measure => simp [intOf]; omega
        · have S2 : Hid (SpSt l sp (k + 1) fr ps) := hideIt (HS.out.miss HLT.out (by rw [HG.out]; exact hc))
          have hq : ((cc.toNat : Int) == si) = false := by rw [beq_eq_false_iff_ne, ← HSI.out]; exact fun h => hc (UInt8.toNat_inj.1 (by omega))
          clear hc
          generalize (cc.toNat : Int) = ci at *
          go_wp2_with fail
          go_roundw
          case rel => exact ⟨k + 1, fr, ps, by omega, by go_num, rfl, HO.out, S2.out, by omega, HB.out⟩
          case measure => simp [intOf]; omega
    · obtain rfl : k = l.length + 1 := by omega
      have hle' : (l.length : Int) < ((l.length + 1 : Nat) : Int) := by omega
      have E : Hid (splitL sp l = ps) := hideIt (by
        rcases HS.out with ⟨h, _⟩ | ⟨_, h⟩
        · omega
        · exact h)
      clear hle
      generalize ((l.length + 1 : Nat) : Int) = ki at *
      go_wp2_with fail
      go_ret
      exact ⟨_, rfl, by rw [E.out]; exact HO.out, HB.out⟩
theorem go_refsplit : goFn Tryd.prog 41 = true := by kernel_rfl
end Go.Proofs.YtbojigimldfghaaDoor
