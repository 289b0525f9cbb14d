/- The walk of FillJoin. -/
import Derived.Test.YtccppgiigkmdbaaDoorFillKnown
import Derived.Test.YtccppgiigkmdbaaDoorFillPairs
import Derived.Test.YtccppgiigkmdbaaDoorFillFacts
import Derived.Test.YtccppgiigkmdbaaDoorUtfLaid
import Derived.Deep.Cut
import Derived.Handy
namespace Go.Proofs.YtccppgiigkmdbaaDoor
open Go.ChangeShapes Go.WideShapes Go.ChangeAt Go.RowKit
set_option linter.unusedVariables false
set_option linter.unusedSimpArgs false

theorem bulk_append (a b : List PairL) : bulkP (a ++ b) = bulkP a + bulkP b := by simp [bulkP]
theorem bulk_most (ps : List PairL) (h : ∀ x ∈ ps, x.1.length ≤ 5 ∧ x.2.length ≤ 8) : bulkP ps ≤ 14 * ps.length := by
  induction ps with
  | nil => simp [bulkP]
  | cons x r ih =>
    have h1 := h x (by simp)
    have h2 := ih (fun y hy => h y (by simp [hy]))
    have : bulkP (x :: r) = (1 + x.1.length + x.2.length) + bulkP r := by simp [bulkP]
    simp only [List.length_cons]; omega
set_option maxHeartbeats 4000000 in
set_option maxRecDepth 8000 in
theorem fillJoin_walk (a0 : Option Addr) (len0 cap0 : Nat) (z0 : List Int) (a1 : Option Addr) (len1 cap1 : Nat) (z1 : List Int) (w : World) (w0 : IsRow .u8 w a0 len0 cap0 z0) (w1 : IsRow .u8 w a1 len1 cap1 z1) (hT : Tabs w) (r0 : cap0 ≤ 140737488355328) (r1 : cap1 ≤ 140737488355328) :
    Calls Tryd.prog 9 #[.slice a0 len0 cap0, .slice a1 len1 cap1] w fun e w' => e = .returned (.bool true) ∧ Below w.heap.size w w' := by
  obtain ⟨_, _, hlc0, _⟩ := w0.bytes
  obtain ⟨bs0, hl0, _, hp0⟩ := row_piece w0 (by omega)
  obtain ⟨_, _, hlc1, _⟩ := w1.bytes
  obtain ⟨bs1, hl1, _, hp1⟩ := row_piece w1 (by omega)
  have HP0 := hideIt (pairs_any a0 bs0 len0 cap0 w hp0 hl0 (by omega))
  have HP1 := hideIt (fun w' (hb : Below w.heap.size w w') => pairs_any a1 bs1 len1 cap1 w' (hp1.keep hb) hl1 (by omega))
  have HM0 := hideIt (pairsL_mem bs0)
  have HM1 := hideIt (pairsL_mem bs1)
  have hm0 := pairsL_len bs0
  have hm1 := pairsL_len bs1
  have HK := hideIt known7_any
  clear w0 w1 hT hp0 hp1 hl0 hl1 hlc0 hlc1 r0 r1
  generalize pairsL bs0 = ls at *
  generalize pairsL bs1 = ms at *
  have N5 : Hid (bulkP ls ≤ 140) := hideIt (by have := bulk_most ls (fun x hx => ⟨(HM0.out x hx).2.1, (HM0.out x hx).2.2⟩); omega)
  have N6 : Hid (bulkP ms ≤ 140) := hideIt (by have := bulk_most ms (fun x hx => ⟨(HM1.out x hx).2.1, (HM1.out x hx).2.2⟩); omega)
  obtain ⟨al, eal⟩ : ∃ al, ls ++ ms = al := ⟨_, rfl⟩
  obtain ⟨tx, etx⟩ : ∃ tx, printL ls ++ [38] ++ printL ms = tx := ⟨_, rfl⟩
  have EX := hideIt etx
  have EAL := hideIt eal
  have N7 : Hid (bulkP al ≤ 280) := hideIt (by rw [← eal, bulk_append]; have := N5.out; have := N6.out; omega)
  have NL : Hid (al.length ≤ 20 ∧ (printL ls).length ≤ 420 ∧ (printL ms).length ≤ 420) := hideIt ⟨by rw [← eal]; simp; omega, by have := print_len ls; have := N5.out; omega, by have := print_len ms; have := N6.out; omega⟩
  have NX : Hid (tx.length ≤ 1000) := hideIt (by rw [← etx]; have := NL.out; simp; omega)
  have EA : Hid (ls ≠ [] → ms ≠ [] → printL al = tx) := hideIt fun h1 h2 => by rw [← eal, ← etx, print_append ls ms h1 h2]; simp
  have PX : Hid (ls ≠ [] → ms ≠ [] → parseL tx = (al, 0)) := hideIt fun h1 h2 => by
    rw [← EA.out h1 h2]
    refine parse_print al (fun x hx => ?_) (by have := NL.out; omega)
    rw [← eal] at hx
    rcases List.mem_append.1 hx with h | h
    · exact (HM0.out x h).1
    · exact (HM1.out x h).1
  clear eal etx HM0 HM1
  go_enter Tryd.func9, Tryd.ntmps9
  go_wp2_with fail
  refine HP0.out.mono ?_
  rintro e w1 ⟨v1, rfl, ho1, hb1⟩
  have B1 := hideIt hb1
  have O1 := hideIt ho1.reads
  clear hb1 ho1 HP0
  go_wp2_with fail
  refine (HP1.out w1 B1.out).mono ?_
  rintro e w2 ⟨v2, rfl, ho2, hb2⟩
  have B2 := hideIt (below_then B1.out hb2)
  have O2 := hideIt ho2.reads
  have P1 := hideIt (O1.out.keep hb2)
  clear hb2 ho2 HP1 O1 B1
  obtain ⟨A1, c1, rfl, k1, k2, k3, k4⟩ := P1.out.form
  obtain ⟨A2, c2, rfl, j1, j2, j3, j4⟩ := O2.out.form
  have K4 := hideIt k4
  have J4 := hideIt j4
  have K3 := hideIt k3
  have J3 := hideIt j3
  clear k4 j4 k3 j3
  by_cases h1 : ls = []
  · have hz : ((ls.length : Int) == 0) = true := by rw [h1]; rfl
    clear h1
    go_wp2_with fail
    refine (HK.out _).mono ?_
    rintro e w3 ⟨rfl, b3⟩
    have B3 := hideIt (below_then B2.out b3)
    clear b3
    go_wp2_with fail
    go_ret
    exact ⟨rfl, B3.out⟩
  have hz : ((ls.length : Int) == 0) = false := by rw [beq_eq_false_iff_ne]; have := List.length_pos_iff.2 h1; omega
  by_cases h2 : ms = []
  · have hz2 : ((ms.length : Int) == 0) = true := by rw [h2]; rfl
    clear h1 h2
    go_wp2_with fail
    refine (HK.out _).mono ?_
    rintro e w3 ⟨rfl, b3⟩
    have B3 := hideIt (below_then B2.out b3)
    clear b3
    go_wp2_with fail
    go_ret
    exact ⟨rfl, B3.out⟩
  have hz2 : ((ms.length : Int) == 0) = false := by rw [beq_eq_false_iff_ne]; have := List.length_pos_iff.2 h2; omega
  have EA := hideIt (EA.out h1 h2)
  have PX := hideIt (PX.out h1 h2)
  clear h1 h2
  have S2 : Hid (w.heap.size ≤ w2.heap.size) := hideIt B2.out.size
  go_wp2_with (at_builtin; refine wpList_appP rfl (.tmp 23) (.tmp 24) rfl w2.heap.size (.slice none 0 0) [] rfl (POwn.nil _ _) A1 c1 ls rfl K3.out K4.out (by simp; omega) (Nat.le_refl _) ?_)
  intro v3 w3 o3 g3
  have hb3 : Below w2.heap.size w2 w3 := below_made g3
  have O3 : Hid (POwn w2.heap.size v3 ls w3) := hideIt (by simpa using o3)
  have B3 := hideIt (below_then B2.out hb3)
  have V5a : Hid (PairsV (.slice A1 ls.length c1) ls w3) := hideIt (P1.out.keep hb3)
  have V6a : Hid (PairsV (.slice A2 ms.length c2) ms w3) := hideIt (O2.out.keep hb3)
  have J4a := hideIt (J4.out.keep hb3)
  have HB3 := hideIt hb3
  have P1b := hideIt P1.out
  have O2b := hideIt O2.out
  clear o3 g3 hb3 P1 O2 K4 J4
  go_wp2_with (at_builtin; refine wpList_appP rfl (.tmp 26) (.tmp 27) rfl w2.heap.size v3 ls rfl O3.out A2 c2 ms rfl J3.out J4a.out (by omega) HB3.out.size ?_)
  intro v4 w4 o4 g4
  have hb4 : Below w2.heap.size w3 w4 := (Below.refl _ _).grown g4 HB3.out.size (fun k hk => (O3.out.lt k hk).1)
  rw [EAL.out] at o4
  have V7 := hideIt o4.reads
  have hb24 := HB3.out.trans hb4
  have V5 : Hid (PairsV (.slice A1 ls.length c1) ls w4) := hideIt (P1b.out.keep hb24)
  have V6 : Hid (PairsV (.slice A2 ms.length c2) ms w4) := hideIt (O2b.out.keep hb24)
  have B4 : Hid (Below w.heap.size w w4) := hideIt (B2.out.trans (hb24.mono S2.out))
  clear o4 g4 hb4 hb24 V5a V6a O3 J4a HB3 B3
  go_upto_region 8 with fail
  refine region_inv [Fact.prs ls, Fact.piece (printL ls), Fact.str (printL ls), Fact.str (printL ls ++ [38]), Fact.prs ms, Fact.piece (printL ms), Fact.str (printL ms), Fact.str (tx), Fact.piece (tx), Fact.told al 0, Fact.told al 0, Fact.prs al, Fact.is (.int .u16 ((0 : Nat) : Int)), Fact.prs al, Fact.is (.int .u16 ((0 : Nat) : Int))] (by kernel_rfl) (by kernel_rfl) ⟨fun a w1 m => ?_, fun a w1 m => ?_, fun a w1 m => ?_, fun a w1 m => ?_, fun a w1 m => ?_, fun a w1 m => ?_, fun a w1 m => ?_, fun a w1 m => ?_, fun a w1 m => ?_, fun a w1 m => ?_, fun a w1 m => ?_, fun a w1 m => ?_, fun a w1 m => ?_, fun a w1 m => ?_, fun a w1 m => ?_, trivial⟩ ?_
  · exact ok_move (wanted_none rfl) (.tmp 5) rfl (by rw [m.old 5 rfl]; exact V5.out.keep m.grew)
  · exact ok_print (wanted_none rfl) (.tmp 30) _ rfl ls (show PairsV (a.eval (.tmp 30)) _ w1 from m.has 0 30 rfl rfl) (by have := N5.out; omega)
  · exact ok_str (wanted_none rfl) (.tmp 31) rfl _ (m.has 1 31 rfl rfl)
  · exact ok_strcat (wanted_none rfl) (.tmp 32) _ _ rfl _ _ _ (m.has 2 32 rfl rfl) (rfl) (by have := NX.out; have := NL.out; simp; omega) (rfl)
  · exact ok_move (wanted_none rfl) (.tmp 6) rfl (by rw [m.old 6 rfl]; exact V6.out.keep m.grew)
  · exact ok_print (wanted_none rfl) (.tmp 34) _ rfl ms (show PairsV (a.eval (.tmp 34)) _ w1 from m.has 4 34 rfl rfl) (by have := N6.out; omega)
  · exact ok_str (wanted_none rfl) (.tmp 35) rfl _ (m.has 5 35 rfl rfl)
  · exact ok_strcat (wanted_none rfl) (.tmp 33) (.tmp 36) _ rfl _ _ _ (m.has 3 33 rfl rfl) (m.has 6 36 rfl rfl) (by have := NX.out; have := NL.out; simp; omega) (EX.out)
  · exact ok_bytesOf (wanted_none rfl) (.tmp 37) rfl tx (m.has 7 37 rfl rfl) (by have := NX.out; omega)
  · exact ok_fparse (wanted_none rfl) (.tmp 38) _ rfl tx (m.has 8 38 rfl rfl) al 0 PX.out (by have := NX.out; omega)
  · exact ok_move (wanted_none rfl) (.tmp 39) rfl (m.has 9 39 rfl rfl)
  · exact ok_told0 (wanted_none rfl) (.tmp 29) rfl al 0 (m.has 10 29 rfl rfl)
  · exact ok_told1 (wanted_none rfl) (.tmp 29) rfl al 0 (m.has 10 29 rfl rfl)
  · exact ok_assign (wanted_none rfl) (.tmp 40) rfl (m.has 11 40 rfl rfl)
  · exact ok_assign (wanted_none rfl) (.tmp 41) rfl (m.has 12 41 rfl rfl)
  intro f w9 hg hf
  have V8 : Hid (PairsV (f 13) al w9) := hideIt (hf 13 (by decide))
  have e14 : f 14 = .int .u16 ((0 : Nat) : Int) := hf 14 (by decide)
  have B9 := hideIt (below_then B4.out hg)
  have V5 := hideIt (V5.out.keep hg)
  have V6 := hideIt (V6.out.keep hg)
  have V7 := hideIt (V7.out.keep hg)
  clear hf hg B4
  simp only [List.take, List.drop, putAll, Act.put, List.setIfInBounds_toArray, List.set_cons_succ, List.set_cons_zero]
  rw [e14]
  generalize f 13 = v8 at *
  clear e14
  go_upto_region 9 with fail
  refine region_inv [Fact.is (.bool true), Fact.is (.bool true), Fact.is (.int .u16 ((0 : Nat) : Int)), Fact.is (.bool true), Fact.is (.bool true), Fact.is (.bool true), Fact.prs al, Fact.prs al, Fact.is (.bool true), Fact.is (.bool true), Fact.is (.bool true), Fact.prs al, Fact.piece (printL al), Fact.str (printL al), Fact.prs ls, Fact.piece (printL ls), Fact.str (printL ls), Fact.str (printL ls ++ [38]), Fact.prs ms, Fact.piece (printL ms), Fact.str (printL ms), Fact.str (tx), Fact.is (.bool true), Fact.is (.bool true), Fact.is (.bool true)] (by kernel_rfl) (by kernel_rfl) ⟨fun a w1 m => ?_, fun a w1 m => ?_, fun a w1 m => ?_, fun a w1 m => ?_, fun a w1 m => ?_, fun a w1 m => ?_, fun a w1 m => ?_, fun a w1 m => ?_, fun a w1 m => ?_, fun a w1 m => ?_, fun a w1 m => ?_, fun a w1 m => ?_, fun a w1 m => ?_, fun a w1 m => ?_, fun a w1 m => ?_, fun a w1 m => ?_, fun a w1 m => ?_, fun a w1 m => ?_, fun a w1 m => ?_, fun a w1 m => ?_, fun a w1 m => ?_, fun a w1 m => ?_, fun a w1 m => ?_, fun a w1 m => ?_, fun a w1 m => ?_, trivial⟩ ?_
  · exact ok_fn (wanted_none rfl) _ _ _ rfl _ map0 go_known7 (known7_any w1) (fun e w' ⟨h1, h2⟩ => ⟨_, h1, rfl, h2⟩)
  · exact ok_move (wanted_none rfl) (.tmp 42) rfl (m.has 0 42 rfl rfl)
  · exact ok_move (wanted_some 1 true rfl 43 rfl true (m.has 1 43 rfl rfl)) (.tmp 9) rfl (m.old 9 rfl)
  · exact ok_u16eq (wanted_some 1 true rfl 43 rfl true (m.has 1 43 rfl rfl)) (.tmp 44) _ _ rfl _ _ (m.has 2 44 rfl rfl) rfl _ rfl
  · exact ok_pickT (wanted_none rfl) (.tmp 43) _ _ rfl (m.has 1 43 rfl rfl) (m.has 3 45 rfl rfl)
  · exact ok_move (wanted_none rfl) (.tmp 46) rfl (m.has 4 46 rfl rfl)
  · exact ok_move (wanted_some 5 true rfl 47 rfl true (m.has 5 47 rfl rfl)) (.tmp 8) rfl (by rw [m.old 8 rfl]; exact V8.out.keep m.grew)
  · exact ok_move (wanted_some 5 true rfl 47 rfl true (m.has 5 47 rfl rfl)) (.tmp 7) rfl (by rw [m.old 7 rfl]; exact V7.out.keep m.grew)
  · exact ok_refsame (wanted_some 5 true rfl 47 rfl true (m.has 5 47 rfl rfl)) (.tmp 48) (.tmp 49) _ rfl al al (show PairsV (a.eval (.tmp 48)) _ w1 from m.has 6 48 rfl rfl) (show PairsV (a.eval (.tmp 49)) _ w1 from m.has 7 49 rfl rfl) true (decide_eq_true rfl) (by have := NL.out; omega)
  · exact ok_pickT (wanted_none rfl) (.tmp 47) _ _ rfl (m.has 5 47 rfl rfl) (m.has 8 50 rfl rfl)
  · exact ok_move (wanted_none rfl) (.tmp 51) rfl (m.has 9 51 rfl rfl)
  · exact ok_move (wanted_some 10 true rfl 52 rfl true (m.has 10 52 rfl rfl)) (.tmp 7) rfl (by rw [m.old 7 rfl]; exact V7.out.keep m.grew)
  · exact ok_print (wanted_some 10 true rfl 52 rfl true (m.has 10 52 rfl rfl)) (.tmp 53) _ rfl al (show PairsV (a.eval (.tmp 53)) _ w1 from m.has 11 53 rfl rfl) (by have := N7.out; omega)
  · exact ok_str (wanted_some 10 true rfl 52 rfl true (m.has 10 52 rfl rfl)) (.tmp 54) rfl _ (m.has 12 54 rfl rfl)
  · exact ok_move (wanted_some 10 true rfl 52 rfl true (m.has 10 52 rfl rfl)) (.tmp 5) rfl (by rw [m.old 5 rfl]; exact V5.out.keep m.grew)
  · exact ok_print (wanted_some 10 true rfl 52 rfl true (m.has 10 52 rfl rfl)) (.tmp 56) _ rfl ls (show PairsV (a.eval (.tmp 56)) _ w1 from m.has 14 56 rfl rfl) (by have := N5.out; omega)
  · exact ok_str (wanted_some 10 true rfl 52 rfl true (m.has 10 52 rfl rfl)) (.tmp 57) rfl _ (m.has 15 57 rfl rfl)
  · exact ok_strcat (wanted_some 10 true rfl 52 rfl true (m.has 10 52 rfl rfl)) (.tmp 58) _ _ rfl _ _ _ (m.has 16 58 rfl rfl) (rfl) (by have := NX.out; have := NL.out; simp; omega) (rfl)
  · exact ok_move (wanted_some 10 true rfl 52 rfl true (m.has 10 52 rfl rfl)) (.tmp 6) rfl (by rw [m.old 6 rfl]; exact V6.out.keep m.grew)
  · exact ok_print (wanted_some 10 true rfl 52 rfl true (m.has 10 52 rfl rfl)) (.tmp 60) _ rfl ms (show PairsV (a.eval (.tmp 60)) _ w1 from m.has 18 60 rfl rfl) (by have := N6.out; omega)
  · exact ok_str (wanted_some 10 true rfl 52 rfl true (m.has 10 52 rfl rfl)) (.tmp 61) rfl _ (m.has 19 61 rfl rfl)
  · exact ok_strcat (wanted_some 10 true rfl 52 rfl true (m.has 10 52 rfl rfl)) (.tmp 59) (.tmp 62) _ rfl _ _ _ (m.has 17 59 rfl rfl) (m.has 20 62 rfl rfl) (by have := NX.out; have := NL.out; simp; omega) (EX.out)
  · exact ok_streq (wanted_some 10 true rfl 52 rfl true (m.has 10 52 rfl rfl)) (.tmp 55) (.tmp 63) _ rfl _ _ (m.has 13 55 rfl rfl) (m.has 21 63 rfl rfl) _ (decide_eq_true (congrArg strOf EA.out))
  · exact ok_pickT (wanted_none rfl) (.tmp 52) _ _ rfl (m.has 10 52 rfl rfl) (m.has 22 64 rfl rfl)
  · exact ok_assign (wanted_none rfl) (.tmp 65) rfl (m.has 23 65 rfl rfl)
  intro f w9 hg hf
  exact fin_ret ‹_› rfl rfl rfl 24 rfl ⟨congrArg Ending.returned (hf 24 (by decide)), below_then B9.out hg⟩
end Go.Proofs.YtccppgiigkmdbaaDoor
