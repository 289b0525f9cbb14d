/- The contract of the reference's Unescape. -/
import Derived.Test.YtccppgiigkmdbaaDoorRefFillEsc
import Derived.Test.YtccppgiigkmdbaaDoorNum16
import Derived.Test.YtccppgiigkmdbaaDoorFillPrint
import Derived.Deep.Cut
import Derived.Handy
namespace Go.Proofs.YtccppgiigkmdbaaDoor
open Go.ChangeShapes Go.WideShapes Go.ChangeAt Go.RowKit
set_option linter.unusedVariables false
set_option linter.unusedSimpArgs false

theorem digU_some {c : UInt8} {x : Nat} (h : hexU c = some x) : digU c = (x : Int) := by rw [digU, h]
theorem digU_no {c : UInt8} (h : hexU c = none) : digU c = -1 := by rw [digU, h]
theorem digAt_at {l : List UInt8} {k : Nat} {c : UInt8} (h : l[k]? = some c) : digAt l k = hexU c := by unfold digAt; simp [List.getD, h]
theorem getD_of {l : List UInt8} {k : Nat} {c : UInt8} (h : l[k]? = some c) : l.getD k 0 = c := by simp [List.getD, h]
set_option maxRecDepth 8000 in
set_option maxHeartbeats 4000000 in
theorem refunesc_any (l : List UInt8) (w : World) (hl : l.length ≤ 100000) :
    Calls Tryd.prog 26 #[.string (strOf l)] w fun e w' => e = .returned (.tuple #[.string (strOf ((unescL l).getD [])), .bool (unescL l).isSome]) ∧ Below w.heap.size w w' := by
  have hsz := strOf_size l
  go_enter Tryd.func26, Tryd.ntmps26
  go_wp2
  go_loopw [4, 5] (fun v i wr => ∃ (k : Nat) (acc : List UInt8), k ≤ l.length ∧ i = .int .i64 (k : Int) ∧ BOwn w.heap.size v acc wr ∧ unescL l = (unescL (l.drop k)).map (acc ++ ·) ∧ acc.length ≤ k ∧ Below w.heap.size w wr) (fun _ i _ => l.length - (intOf i).toNat)
  case atStart => exact ⟨0, [], by omega, rfl, ⟨rfl, Or.inl ⟨rfl, rfl⟩⟩, by simp, by simp, Below.refl _ _⟩
  case round =>
    obtain ⟨k, acc, hk, rfl, ho, he, hacc, hb⟩ := hrel
    have HO := hideIt ho
    have HE := hideIt he
    have HB := hideIt hb
    clear ho he hb
    have hwk : IntKind.i64.wrap ((k : Int) + 1) = (k : Int) + 1 := IntWalk.i64_in _ (by omega)
    have hwk2 : IntKind.i64.wrap ((k : Int) + 2) = (k : Int) + 2 := IntWalk.i64_in _ (by omega)
    have hwk3 : IntKind.i64.wrap ((k : Int) + 2 + 1) = (k : Int) + 3 := by rw [IntWalk.i64_in _ (by omega)]; omega
    by_cases hlt : k < l.length
    · have hlt' : (k : Int) < (l.length : Int) := by omega
      obtain ⟨cc, hcc⟩ : ∃ c, l[k]? = some c := ⟨_, List.getElem?_eq_getElem hlt⟩
      have hix : ∀ w, (Instr.index 9 (.string (strOf l)) (.int .i64 (k : Int))).run Tryd.prog w = .ok (.int .u8 (cc.toNat : Int)) w := fun w => by
        obtain ⟨h1, h2⟩ := List.getElem?_eq_some_iff.1 hcc
        have := run_index_str w l .i64 k h1
        rwa [h2] at this
      have HG := hideIt (getD_of hcc)
      have HLT := hideIt hlt
      clear hcc
      by_cases h43 : cc = 43
      · subst h43
        have EU := hideIt (unesc_step HLT.out HG.out (by decide) HE.out)
        rw [if_pos rfl] at EU
        rw [show ((43 : UInt8).toNat : Int) = 43 from rfl] at hix
        go_wp2_with (at_builtin; refine wpList_app1 rfl (.tmp 56) (.tmp 58) rfl w.heap.size _ acc 32 32 rfl rfl HO.out rfl (by omega) HB.out.size ?_)
        intro v7 w7 o7 g7
        have O7 := hideIt o7
        have B7 : Hid (Below w.heap.size w w7) := hideIt ((HB.out.trans ((below_new _ _).mono HB.out.size)).grown g7 (Nat.le_trans HB.out.size (below_new _ _).size) (fun j hj => (World.ownsRow.lt HO.out j hj).1))
        clear o7 g7
        go_wp2_with fail
        go_roundw
        case rel => exact ⟨k + 1, acc ++ [32], by omega, by go_num, O7.out, EU.out, by simp; omega, B7.out⟩
        case measure => simp [intOf]; omega
      have q43 : ((cc.toNat : Int) == 43) = false := by rw [beq_eq_false_iff_ne]; exact fun h => h43 (UInt8.toNat_inj.1 (by show cc.toNat = 43; omega))
      by_cases h37 : cc = 37
      · subst h37
        clear q43 h43
        rw [show ((37 : UInt8).toNat : Int) = 37 from rfl] at hix
        by_cases h2 : k + 2 < l.length
        · have h2' : (k : Int) + 2 < (l.length : Int) := by omega
          obtain ⟨c1, hc1⟩ : ∃ c, l[k + 1]? = some c := ⟨_, List.getElem?_eq_getElem (by omega)⟩
          obtain ⟨c2, hc2⟩ : ∃ c, l[k + 2]? = some c := ⟨_, List.getElem?_eq_getElem h2⟩
          have hi1 : ∀ w, (Instr.index 9 (.string (strOf l)) (.int .i64 ((k : Int) + 1))).run Tryd.prog w = .ok (.int .u8 (c1.toNat : Int)) w := fun w => by
            obtain ⟨h1, h2⟩ := List.getElem?_eq_some_iff.1 hc1
            have := run_index_str w l .i64 (k + 1) h1
            rwa [h2] at this
          have hi2 : ∀ w, (Instr.index 9 (.string (strOf l)) (.int .i64 ((k : Int) + 2))).run Tryd.prog w = .ok (.int .u8 (c2.toNat : Int)) w := fun w => by
            obtain ⟨h1, h2⟩ := List.getElem?_eq_some_iff.1 hc2
            have := run_index_str w l .i64 (k + 2) h1
            rwa [h2] at this
          have D1 := hideIt (refdig_any c1)
          have D2 := hideIt (refdig_any c2)
          have HC1 := hideIt hc1
          have HC2 := hideIt hc2
          have HD1 := hideIt (digAt_at hc1)
          have HD2 := hideIt (digAt_at hc2)
          have HM : Hid (min (k + 1 + 1) l.length = k + 2) := hideIt (by omega)
          clear hc1 hc2
          cases hx1 : hexU c1 with
          | none =>
            have E : Hid (unescL l = none) := hideIt (unesc_stepN HLT.out HG.out (by rw [HD1.out, hx1]; rfl) HE.out)
            have HV1 := hideIt (digU_no hx1)
            clear hx1
            go_wp2_with fail
            refine (D1.out _).mono ?_
            rintro e w2 ⟨rfl, rfl⟩
            rw [HV1.out]
            go_wp2_with fail
            go_ret2
            exact ⟨by rw [E.out]; rfl, HB.out⟩
          | some p =>
            have hp := hexU_lt hx1
            have Hp := hideIt (digU_some hx1)
            have hp0 : ¬ (p : Int) < 0 := by omega
            cases hx2 : hexU c2 with
            | none =>
              have E : Hid (unescL l = none) := hideIt (unesc_stepN HLT.out HG.out (by rw [HM.out, HD2.out, hx2]; simp) HE.out)
              have HV2 := hideIt (digU_no hx2)
              clear hx1 hx2
              go_wp2_with fail
              refine (D1.out _).mono ?_
              rintro e w2 ⟨rfl, rfl⟩
              rw [Hp.out]
              go_wp2_with fail
              refine (D2.out _).mono ?_
              rintro e w2 ⟨rfl, rfl⟩
              rw [HV2.out]
              go_wp2_with fail
              go_ret2
              exact ⟨by rw [E.out]; rfl, HB.out⟩
            | some q =>
              have hq := hexU_lt hx2
              have Hq := hideIt (digU_some hx2)
              have hq0 : ¬ (q : Int) < 0 := by omega
              have EU := hideIt (unesc_stepP HLT.out HG.out (by rw [HD1.out, hx1]) (by rw [HD2.out, hx2]) HE.out)
              clear hx1 hx2
              go_wp2_with fail
              refine (D1.out _).mono ?_
              rintro e w2 ⟨rfl, rfl⟩
              rw [Hp.out]
              go_wp2_with fail
              refine (D2.out _).mono ?_
              rintro e w2 ⟨rfl, rfl⟩
              rw [Hq.out]
              go_upto_region 11 with fail
              refine region_inv [Fact.str (l), Fact.is (.int .i64 ((k : Nat) : Int)), Fact.is (.int .i64 ((k + 1 : Nat) : Int)), Fact.is (.int .u8 (c1.toNat : Int)), Fact.is (.int .i64 ((p : Nat) : Int)), Fact.is (.int .i64 ((16 * p : Nat) : Int)), Fact.str (l), Fact.is (.int .i64 ((k : Nat) : Int)), Fact.is (.int .i64 ((k + 2 : Nat) : Int)), Fact.is (.int .u8 (c2.toNat : Int)), Fact.is (.int .i64 ((q : Nat) : Int)), Fact.is (.int .i64 ((16 * p + q : Nat) : Int)), Fact.is (.int .u8 ((UInt8.ofNat (16 * p + q)).toNat : Int)), Fact.is (.int .u8 ((UInt8.ofNat (16 * p + q)).toNat : Int))] (by kernel_rfl) (by kernel_rfl) ⟨fun a w1 m => ?_, fun a w1 m => ?_, fun a w1 m => ?_, fun a w1 m => ?_, fun a w1 m => ?_, fun a w1 m => ?_, fun a w1 m => ?_, fun a w1 m => ?_, fun a w1 m => ?_, fun a w1 m => ?_, fun a w1 m => ?_, fun a w1 m => ?_, fun a w1 m => ?_, fun a w1 m => ?_, trivial⟩ ?_
              · exact ok_move (wanted_none rfl) (.tmp 0) rfl (m.old 0 rfl)
              · exact ok_move (wanted_none rfl) (.tmp 5) rfl (m.old 5 rfl)
              · exact ok_bin (wanted_none rfl) _ _ _ (.tmp 42) _ rfl _ _ _ (m.has 1 42 rfl rfl) (rfl) rfl (run_add64 k 1 (by omega))
              · exact ok_strindex (wanted_none rfl) (.tmp 41) (.tmp 43) rfl l .i64 (k + 1) (m.has 0 41 rfl rfl) (m.has 2 43 rfl rfl) _ HC1.out
              · exact ok_fn (wanted_none rfl) _ _ _ rfl _ (map1 (m.has 3 44 rfl rfl)) go_refdig (refdig_any c1 w1) (fun e w' ⟨h1, h2⟩ => ⟨_, h1, congrArg _ Hp.out, h2 ▸ Grew.refl _⟩)
              · exact ok_bin (wanted_none rfl) _ _ _ _ (.tmp 45) rfl _ _ _ rfl (m.has 4 45 rfl rfl) rfl (run_mul16 p hp)
              · exact ok_move (wanted_none rfl) (.tmp 0) rfl (m.old 0 rfl)
              · exact ok_move (wanted_none rfl) (.tmp 5) rfl (m.old 5 rfl)
              · exact ok_bin (wanted_none rfl) _ _ _ (.tmp 48) _ rfl _ _ _ (m.has 7 48 rfl rfl) (rfl) rfl (run_add64 k 2 (by omega))
              · exact ok_strindex (wanted_none rfl) (.tmp 47) (.tmp 49) rfl l .i64 (k + 2) (m.has 6 47 rfl rfl) (m.has 8 49 rfl rfl) _ HC2.out
              · exact ok_fn (wanted_none rfl) _ _ _ rfl _ (map1 (m.has 9 50 rfl rfl)) go_refdig (refdig_any c2 w1) (fun e w' ⟨h1, h2⟩ => ⟨_, h1, congrArg _ Hq.out, h2 ▸ Grew.refl _⟩)
              · exact ok_bin (wanted_none rfl) _ _ _ (.tmp 46) (.tmp 51) rfl _ _ _ (m.has 5 46 rfl rfl) (m.has 10 51 rfl rfl) rfl (run_add64 (16 * p) q (by omega))
              · exact ok_conv (wanted_none rfl) _ _ (.tmp 52) rfl _ (by rw [show a.eval (.tmp 52) = _ from m.has 11 52 rfl rfl]; exact run_tobyte (16 * p + q) (by omega) w1) rfl
              · exact ok_assign (wanted_none rfl) (.tmp 53) rfl (m.has 12 53 rfl rfl)
              intro f w9 hg hf
              have e13 : f 13 = .int .u8 ((UInt8.ofNat (16 * p + q)).toNat : Int) := hf 13 (by decide)
              have HO := hideIt (own_stay HO.out hg)
              have HB := hideIt (below_then HB.out hg)
              clear hf hg
              simp only [List.take, List.drop, putAll, Act.put, List.setIfInBounds_toArray, List.set_cons_succ, List.set_cons_zero]
              rw [e13]
              clear e13
              generalize UInt8.ofNat (16 * p + q) = cd at *
              go_wp2_with (at_builtin; refine wpList_app1 rfl (.tmp 56) (.tmp 58) rfl w.heap.size _ acc cd (cd.toNat : Int) rfl rfl HO.out rfl (by omega) HB.out.size ?_)
              intro v7 w7 o7 g7
              have O7 := hideIt o7
              have B7 : Hid (Below w.heap.size w w7) := hideIt ((HB.out.trans ((below_new _ _).mono HB.out.size)).grown g7 (Nat.le_trans HB.out.size (below_new _ _).size) (fun j hj => (World.ownsRow.lt HO.out j hj).1))
              clear o7 g7
              go_wp2_with fail
              go_roundw
              case rel => exact ⟨k + 3, acc ++ [cd], by omega, by go_num, O7.out, EU.out, by simp; omega, B7.out⟩
              case measure => simp [intOf]; omega
        · have h2' : (l.length : Int) ≤ (k : Int) + 2 := by omega
          have E : Hid (unescL l = none) := hideIt (unesc_stepN HLT.out HG.out (by rw [show min (k + 1 + 1) l.length = l.length by omega, digAt_end l l.length (Nat.le_refl _)]; simp) HE.out)
          go_wp2_with fail
          go_ret2
          exact ⟨by rw [E.out]; rfl, HB.out⟩
      · have q37 : ((cc.toNat : Int) == 37) = false := by rw [beq_eq_false_iff_ne]; exact fun h => h37 (UInt8.toNat_inj.1 (by show cc.toNat = 37; omega))
        have EU := hideIt (unesc_step HLT.out HG.out h37 HE.out)
        rw [if_neg h43] at EU
        clear h37 h43
        go_wp2_with (at_builtin; refine wpList_app1 rfl (.tmp 56) (.tmp 58) rfl w.heap.size _ acc cc (cc.toNat : Int) rfl rfl HO.out rfl (by omega) HB.out.size ?_)
        intro v7 w7 o7 g7
        have O7 := hideIt o7
        have B7 : Hid (Below w.heap.size w w7) := hideIt ((HB.out.trans ((below_new _ _).mono HB.out.size)).grown g7 (Nat.le_trans HB.out.size (below_new _ _).size) (fun j hj => (World.ownsRow.lt HO.out j hj).1))
        clear o7 g7
        go_wp2_with fail
        go_roundw
        case rel => exact ⟨k + 1, acc ++ [cc], by omega, by go_num, O7.out, EU.out, by simp; omega, B7.out⟩
        case measure => simp [intOf]; omega
    · obtain rfl : k = l.length := by omega
      have hlt' : ¬ (l.length : Int) < (l.length : Int) := by omega
      have E : Hid (unescL l = some acc) := hideIt (unesc_done (by omega) HE.out)
      obtain ⟨A, c, rfl, hl2, hlc, hcm, hnil, hby⟩ := own_open HO.out
      have hcv : (convert 22 9 (.slice A acc.length c)).run Tryd.prog wr = .ok (.string (strOf acc)) wr := conv_bytes A acc _ c _ wr hby rfl
      clear hby hnil hlc hcm
      go_wp2_with fail
      go_ret2
      exact ⟨by rw [E.out]; rfl, HB.out⟩
theorem go_refunesc : goFn Tryd.prog 26 = true := by kernel_rfl
end Go.Proofs.YtccppgiigkmdbaaDoor
