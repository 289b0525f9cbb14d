/- The contract of the reference's pieces. -/
import Derived.Test.YtjfmlfakdijfjaaDoorCookiePlain
import Derived.Test.YtjfmlfakdijfjaaDoorTexts
import Derived.Test.YtjfmlfakdijfjaaDoorStrRun
import Derived.Test.YtjfmlfakdijfjaaDoorCmp
import Derived.Deep.Cut
import Derived.Handy
namespace Go.Proofs.YtjfmlfakdijfjaaDoor
open Go.ChangeShapes Go.WideShapes Go.ChangeAt Go.RowKit
set_option linter.unusedVariables false
set_option linter.unusedSimpArgs false

theorem pre_at (l : List UInt8) (k : Nat) : scL.isPrefixOf (l.drop k) = true ↔ l[k]? = some 59 ∧ l[k + 1]? = some 32 := by
  have h0 : l[k]? = (l.drop k)[0]? := by rw [List.getElem?_drop]; simp
  have h1 : l[k + 1]? = (l.drop k)[1]? := by rw [List.getElem?_drop]
  rw [h0, h1]
  rcases l.drop k with _ | ⟨a, _ | ⟨b, r⟩⟩
  · simp [scL]
  · simp [scL, List.isPrefixOf]
  · simp only [scL, List.isPrefixOf, Bool.and_eq_true, beq_iff_eq, List.getElem?_cons_zero, List.getElem?_cons_succ, Option.some.injEq, and_true]
    constructor
    · rintro ⟨rfl, rfl⟩; exact ⟨rfl, rfl⟩
    · rintro ⟨rfl, rfl⟩; exact ⟨rfl, rfl⟩
theorem pre_not {l : List UInt8} {k : Nat} (h : ¬ (l[k]? = some 59 ∧ l[k + 1]? = some 32)) : scL.isPrefixOf (l.drop k) = false := by
  cases hp : scL.isPrefixOf (l.drop k)
  · rfl
  · exact absurd ((pre_at l k).1 hp) h
/-- how pieces stands -/
def PcSt (l : List UInt8) (k fr : Nat) (ps : List (List UInt8)) : Prop :=
  (k ≤ l.length ∧ fr ≤ l.length ∧ fr ≤ k + 1 ∧ (k < fr → l[k]? = some 32) ∧ (∀ j, fr ≤ j → j < k → scL.isPrefixOf (l.drop j) = false) ∧ pcsL l = ps ++ pcsL (l.drop fr)) ∨ (k = l.length + 1 ∧ pcsL l = ps)
theorem PcSt.last {l : List UInt8} {fr : Nat} {ps : List (List UInt8)} (h : PcSt l l.length fr ps) : pcsL l = ps ++ [(l.drop fr).take (l.length - fr)] ∧ fr ≤ l.length := by
  rcases h with ⟨h1, h2, h3, h4, h5, h6⟩ | ⟨h1, _⟩
  · have e : (l.drop fr).take (l.length - fr) = l.drop fr := List.take_of_length_le (by rw [List.length_drop]; omega)
    refine ⟨?_, h2⟩
    rw [e, h6, pcs_last]
    refine cut_none fun j hj => ?_
    rw [List.length_drop] at hj
    rw [List.drop_drop]
    exact h5 _ (by omega) (by omega)
  · omega
theorem PcSt.hit {l : List UInt8} {k fr : Nat} {ps : List (List UInt8)} (h : PcSt l k fr ps) (hk : k + 1 < l.length) (hc : l[k]? = some 59) (hd : l[k + 1]? = some 32) : fr ≤ k ∧ PcSt l (k + 1) (k + 2) (ps ++ [(l.drop fr).take (k - fr)]) := by
  rcases h with ⟨h1, h2, h3, h4, h5, h6⟩ | ⟨h1, _⟩
  · have hfk : fr ≤ k := by
      rcases Nat.lt_or_ge k fr with hh | hh
      · rw [h4 hh] at hc; cases hc
      · exact hh
    refine ⟨hfk, .inl ⟨by omega, by omega, by omega, fun _ => hd, fun j a b => by omega, ?_⟩⟩
    have hcut := cut_first (sep := scL) (by simp [scL]) (l := l.drop fr) (i := k - fr) (fun j hj => by
      rw [List.drop_drop]; exact h5 _ (by omega) (by omega)) (by
      rw [List.drop_drop, show fr + (k - fr) = k by omega]; exact (pre_at l k).2 ⟨hc, hd⟩)
    rw [h6, pcs_step hcut, List.drop_drop, show scL.length = 2 from rfl, show fr + (k - fr + 2) = k + 2 by omega, List.append_assoc]
    rfl
  · omega
theorem PcSt.miss {l : List UInt8} {k fr : Nat} {ps : List (List UInt8)} (h : PcSt l k fr ps) (hk : k < l.length) (hc : ¬ (l[k]? = some 59 ∧ l[k + 1]? = some 32)) : PcSt l (k + 1) fr ps := by
  rcases h with ⟨h1, h2, h3, h4, h5, h6⟩ | ⟨h1, _⟩
  · refine .inl ⟨hk, h2, by omega, fun hh => by omega, fun j hj hj2 => ?_, h6⟩
    rcases Nat.lt_or_ge j k with hh | hh
    · exact h5 j hj hh
    · obtain rfl : j = k := by omega
      exact pre_not hc
  · omega
set_option maxRecDepth 8000 in
set_option maxHeartbeats 4000000 in
theorem rpieces_any (l : List UInt8) (w : World) (hl : l.length ≤ 100000) :
    Calls Tryd.prog 42 #[.string (strOf l)] w fun e w' => ∃ v, e = .returned v ∧ SOwn w.heap.size v (pcsL l) w' ∧ Below w.heap.size w w' := by
  have hsz := strOf_size l
  go_enter Tryd.func42, Tryd.ntmps42
  go_wp2
  go_loopw [3, 4, 5] (fun v fv iv wr => ∃ (k fr : Nat) (ps : List (List UInt8)), k ≤ l.length + 1 ∧ iv = .int .i64 (k : Int) ∧ fv = .int .i64 (fr : Int) ∧ fr ≤ l.length + 2 ∧ SOwn w.heap.size v ps wr ∧ PcSt l k fr ps ∧ ps.length ≤ k ∧ Below w.heap.size w wr) (fun _ _ i _ => l.length + 1 - (intOf i).toNat)
  case atStart => exact ⟨0, 0, [], by omega, rfl, rfl, by omega, SOwn.nil _ _, .inl ⟨by omega, by omega, by omega, fun h => by omega, fun j _ h => by omega, by simp⟩, by simp, Below.refl _ _⟩
  case round =>
    obtain ⟨k, fr, ps, hk, rfl, rfl, hfb, ho, hst, hpl, hb⟩ := hrel
    have HO := hideIt ho
    have HS := hideIt hst
    have HB := hideIt hb
    clear ho hst hb
    have hwk : IntKind.i64.wrap ((k : Int) + 1) = (k : Int) + 1 := IntWalk.i64_in _ (by omega)
    have hwk2 : IntKind.i64.wrap ((k : Int) + 2) = (k : Int) + 2 := IntWalk.i64_in _ (by omega)
    by_cases hle : k ≤ l.length
    · have hle' : (k : Int) ≤ (l.length : Int) := by omega
      by_cases heq : k = l.length
      · subst heq
        obtain ⟨E0, hfr⟩ := HS.out.last
        obtain ⟨y, hy⟩ : ∃ y, (l.drop fr).take (l.length - fr) = y := ⟨_, rfl⟩
        have hsl : ∀ w, (Instr.slice 9 (.string (strOf l)) (some (.int .i64 (fr : Int))) (some (.int .i64 (l.length : Int))) none).run Tryd.prog w = .ok (.string (strOf y)) w := fun w => by
          have := run_slice_str w l (some (.int .i64 (fr : Int))) (some (.int .i64 (l.length : Int))) .i64 .i64 fr l.length (.inr rfl) (.inr rfl) hfr (Nat.le_refl _)
          rwa [hy] at this
        have E : Hid (pcsL l = ps ++ [y]) := hideIt (by rw [← hy]; exact E0)
        clear hy E0
        go_wp2_with (at_builtin; refine wpList_appT1 rfl (.tmp 41) (.tmp 46) rfl w.heap.size _ ps y rfl HO.out rfl (by omega) HB.out.size ?_)
        intro v7 w7 o7 g7
        have O7 := hideIt o7
        have B7 : Hid (Below w.heap.size w w7) := hideIt (HB.out.trans (g7 _ (Nat.le_refl _)))
        clear o7 g7
        go_wp2_with fail
        go_roundw
        case rel => exact ⟨l.length + 1, l.length + 2, ps ++ [y], by omega, by go_num, by go_num, by omega, O7.out, .inr ⟨rfl, E.out⟩, by simp; omega, B7.out⟩
        case measure => simp [intOf]
      · have hne : ((k : Int) == (l.length : Int)) = false := by rw [beq_eq_false_iff_ne]; omega
        have hlt : k < l.length := by omega
        have HLT := hideIt hlt
        by_cases hk1 : k + 1 < l.length
        · have hk1' : (k : Int) + 1 < (l.length : Int) := by omega
          obtain ⟨cc, hcc⟩ : ∃ c, l[k]? = some c := ⟨_, List.getElem?_eq_getElem hlt⟩
          obtain ⟨dd, hdd⟩ : ∃ c, l[k + 1]? = some c := ⟨_, List.getElem?_eq_getElem hk1⟩
          have hix : ∀ w, (Instr.index 9 (.string (strOf l)) (.int .i64 (k : Int))).run Tryd.prog w = .ok (.int .u8 (cc.toNat : Int)) w := fun w => by
            obtain ⟨h1, h2⟩ := List.getElem?_eq_some_iff.1 hcc
            have := run_index_str w l .i64 k h1
            rwa [h2] at this
          have hix2 : ∀ w, (Instr.index 9 (.string (strOf l)) (.int .i64 ((k : Int) + 1))).run Tryd.prog w = .ok (.int .u8 (dd.toNat : Int)) w := fun w => by
            obtain ⟨h1, h2⟩ := List.getElem?_eq_some_iff.1 hdd
            have := run_index_str w l .i64 (k + 1) h1
            rwa [h2] at this
          have HC := hideIt hcc
          have HD := hideIt hdd
          have HK1 := hideIt hk1
          clear hcc hdd heq
          by_cases hc : cc = 59
          · by_cases hd : dd = 32
            · obtain ⟨hfr, S2⟩ := HS.out.hit HK1.out (by rw [HC.out, hc]) (by rw [HD.out, hd])
              obtain ⟨y, hy⟩ : ∃ y, (l.drop fr).take (k - fr) = y := ⟨_, rfl⟩
              have hsl : ∀ w, (Instr.slice 9 (.string (strOf l)) (some (.int .i64 (fr : Int))) (some (.int .i64 (k : Int))) none).run Tryd.prog w = .ok (.string (strOf y)) w := fun w => by
                have := run_slice_str w l (some (.int .i64 (fr : Int))) (some (.int .i64 (k : Int))) .i64 .i64 fr k (.inr rfl) (.inr rfl) hfr hle
                rwa [hy] at this
              rw [hy] at S2
              have HS2 := hideIt S2
              have hq : ((cc.toNat : Int) == 59) = true := by rw [hc]; rfl
              have hq2 : ((dd.toNat : Int) == 32) = true := by rw [hd]; rfl
              have hfr' : (fr : Int) ≤ (k : Int) := by omega
              clear hc hd hy S2
              generalize (cc.toNat : Int) = ci at *
              generalize (dd.toNat : Int) = di at *
              go_wp2_with (at_builtin; refine wpList_appT1 rfl (.tmp 41) (.tmp 46) rfl w.heap.size _ ps y rfl HO.out rfl (by omega) HB.out.size ?_)
              intro v7 w7 o7 g7
              have O7 := hideIt o7
              have B7 : Hid (Below w.heap.size w w7) := hideIt (HB.out.trans (g7 _ (Nat.le_refl _)))
              clear o7 g7
              go_wp2_with fail
              go_roundw
              case rel => exact ⟨k + 1, k + 2, ps ++ [y], by omega, by go_num, by go_num, by omega, O7.out, HS2.out, by simp; omega, B7.out⟩
              case measure => simp [intOf]; omega
            · have S2 : Hid (PcSt l (k + 1) fr ps) := hideIt (HS.out.miss HLT.out (by rw [HD.out]; rintro ⟨_, h⟩; exact hd (Option.some.inj h)))
              have hq : ((cc.toNat : Int) == 59) = true := by rw [hc]; rfl
              have hq2 : ((dd.toNat : Int) == 32) = false := by rw [beq_eq_false_iff_ne]; exact fun h => hd (UInt8.toNat_inj.1 (by have : (32 : UInt8).toNat = 32 := rfl; omega))
              clear hc hd
              generalize (cc.toNat : Int) = ci at *
              generalize (dd.toNat : Int) = di at *
              go_wp2_with fail
              go_roundw
              case rel => exact ⟨k + 1, fr, ps, by omega, by go_num, rfl, hfb, HO.out, S2.out, by omega, HB.out⟩
              case measure => simp [intOf]; omega
          · have S2 : Hid (PcSt l (k + 1) fr ps) := hideIt (HS.out.miss HLT.out (by rw [HC.out]; rintro ⟨h, _⟩; exact hc (Option.some.inj h)))
            have hq : ((cc.toNat : Int) == 59) = false := by rw [beq_eq_false_iff_ne]; exact fun h => hc (UInt8.toNat_inj.1 (by have : (59 : UInt8).toNat = 59 := rfl; omega))
            clear hc
            generalize (cc.toNat : Int) = ci at *
            generalize (dd.toNat : Int) = di at *
            go_wp2_with fail
            go_roundw
            case rel => exact ⟨k + 1, fr, ps, by omega, by go_num, rfl, hfb, HO.out, S2.out, by omega, HB.out⟩
            case measure => simp [intOf]; omega
        · have hk1' : ¬ (k : Int) + 1 < (l.length : Int) := by omega
          have S2 : Hid (PcSt l (k + 1) fr ps) := hideIt (HS.out.miss HLT.out (by rintro ⟨_, h⟩; have := (List.getElem?_eq_some_iff.1 h).1; omega))
          clear heq
          go_wp2_with fail
          go_roundw
          case rel => exact ⟨k + 1, fr, ps, by omega, by go_num, rfl, hfb, HO.out, S2.out, by omega, HB.out⟩
          case measure => simp [intOf]; omega
    · obtain rfl : k = l.length + 1 := by omega
      have hle' : (l.length : Int) < ((l.length + 1 : Nat) : Int) := by omega
      have E : Hid (pcsL l = ps) := hideIt (by
        rcases HS.out with ⟨h, _⟩ | ⟨_, h⟩
        · omega
        · exact h)
      clear hle
      generalize ((l.length + 1 : Nat) : Int) = ki at *
      go_wp2_with fail
      go_ret
      exact ⟨_, rfl, by rw [E.out]; exact HO.out, HB.out⟩
theorem go_rpieces : goFn Tryd.prog 42 = true := by kernel_rfl
end Go.Proofs.YtjfmlfakdijfjaaDoor
