/- The walk of HeadAll. -/
import Derived.Test.YtfmkmgnaalkgoaaDoorHeadKnown
import Derived.Test.YtfmkmgnaalkgoaaDoorHeadNames
import Derived.Test.YtfmkmgnaalkgoaaDoorOpenPairs
import Derived.Test.YtfmkmgnaalkgoaaDoorUtfLaid
import Derived.Deep.Cut
import Derived.Handy
namespace Go.Proofs.YtfmkmgnaalkgoaaDoor
open Go.ChangeShapes Go.WideShapes Go.ChangeAt Go.RowKit
set_option linter.unusedVariables false
set_option linter.unusedSimpArgs false

set_option maxRecDepth 8000 in
set_option maxHeartbeats 8000000 in
theorem headAll_walk (a0 : Option Addr) (len0 cap0 : Nat) (x0 : List PairL) (a1 : ByteArray) (a2 : Option Addr) (len2 cap2 : Nat) (z2 : List Int) (a3 : Int) (w : World) (w0 : IsPairs w a0 len0 cap0 x0) (w1 : a1.size ≤ maxLen) (w2 : IsRow .u8 w a2 len2 cap2 z2) (w3 : (Lit.int .u8 a3).wf = true) (hT : Tabs w) (r1 : a1.size ≤ 140737488355328) (r2 : cap2 ≤ 140737488355328) :
    Calls Tryd.prog 4 #[.slice a0 len0 cap0, .string a1, .slice a2 len2 cap2, .int .u8 a3] w fun e w' => e = .returned (.bool true) ∧ Below w.heap.size w w' := by
  obtain ⟨nm, rfl, e1⟩ := str_is a1
  have s1 := strOf_size nm
  rw [s1] at r1
  have hi3 := bounds_u8 w3
  obtain ⟨k, rfl, hk256⟩ : ∃ n : Nat, a3 = (n : Int) ∧ n < 256 := ⟨a3.toNat, by omega, by omega⟩
  obtain ⟨_, _, hlc2, _⟩ := w2.bytes
  obtain ⟨bs, hl2, _, hp2⟩ := row_piece w2 (by omega)
  have HK := hideIt known8_any
  have V := hideIt w0.reads
  have HX0 := hideIt w0.many
  have HXE := hideIt w0.each
  have HP := hideIt hp2
  have HN := hideIt hl2
  have H8 := hideIt (Nat.mod_lt k (show 8 > 0 by decide))
  have HK256 := hideIt hk256
  clear w0 w1 w2 w3 hT e1 hi3 hp2 hl2 hk256
  by_cases h0 : 40 < len0
  · have h0' : (40 : Int) < (len0 : Int) := by omega
    clear h0
    go_enter Tryd.func4, Tryd.ntmps4
    go_wp2_with fail
    refine (HK.out _).mono ?_
    rintro e u1 ⟨rfl, hb⟩
    have B1 := hideIt hb
    clear hb
    go_wp2_with fail
    go_ret
    exact ⟨rfl, B1.out⟩
  have h0' : ¬ (40 : Int) < (len0 : Int) := by omega
  by_cases h1 : 100 < nm.length
  · have h1' : (100 : Int) < (nm.length : Int) := by omega
    clear h1 h0
    go_enter Tryd.func4, Tryd.ntmps4
    go_wp2_with fail
    refine (HK.out _).mono ?_
    rintro e u1 ⟨rfl, hb⟩
    have B1 := hideIt hb
    clear hb
    go_wp2_with fail
    go_ret
    exact ⟨rfl, B1.out⟩
  have h1' : ¬ (100 : Int) < (nm.length : Int) := by omega
  have HL0 : Hid (x0.length ≤ 40) := hideIt (by have := HX0.out; omega)
  have HLN : Hid (nm.length ≤ 100) := hideIt (by omega)
  clear h0 h1
  go_enter Tryd.func4, Tryd.ntmps4
  go_wp2_with fail
  refine (HK.out _).mono ?_
  rintro e u1 ⟨rfl, hb⟩
  have hT : ∀ q, q < 8 → (u1.alloc (.cells hnV 9)).cell? ⟨u1.heap.size, q, none⟩ = some (.string (strOf (hn q))) := fun q hq => by
    rw [World.cell?_alloc_at _ _ _ _ rfl]; exact hn_at q hq
  have HT := hideIt hT
  have HG : Hid (u1.heap.size < (u1.alloc (.cells hnV 9)).heap.size) := hideIt (by rw [alloc_size]; exact Nat.lt_succ_self _)
  have B1 := hideIt (below_then hb (below_new u1 (.cells hnV 9)))
  clear hb hT HK
  go_wp2_with fail
  change Code.wp _ _ _ _ (u1.alloc (.cells hnV 9))
  generalize u1.alloc (.cells hnV 9) = W at *
  generalize u1.heap.size = g at *
  go_loopw [9, 11] (fun mv i wr => ∃ j : Nat, j ≤ 20 ∧ j ≤ len2 ∧ i = .int .i64 (j : Int) ∧ POwn W.heap.size mv (hmP bs j) wr ∧ Below W.heap.size W wr) (fun mv i wr => 20 - (intOf i).toNat)
  case atStart => exact ⟨0, by omega, by omega, rfl, POwn.nil _ _, Below.refl _ _⟩
  case round =>
    obtain ⟨j, hj20, hj, rfl, ho, hb⟩ := hrel
    have HO := hideIt ho
    have HB := hideIt hb
    have HBW := hideIt (below_then B1.out hb)
    clear ho hb
    have hwj : IntKind.i64.wrap ((j : Int) + 1) = (j : Int) + 1 := IntWalk.i64_in _ (by omega)
    have hpl := hmP_len bs j
    by_cases hgo : j < len2 ∧ j < 20
    · obtain ⟨h1, h2⟩ := hgo
      have h1' : (j : Int) < (len2 : Int) := by omega
      have h2' : (j : Int) < 20 := by omega
      have hjb : j < bs.length := by have := HN.out; omega
      obtain ⟨b, off, rfl, hbl, hcells⟩ := HP.out.bytes (by show 0 < bs.length; omega)
      obtain ⟨x, hx⟩ : ∃ x, (bs[j]).toNat = x := ⟨_, rfl⟩
      have hx256 : x < 256 := by rw [← hx]; exact (bs[j]).toNat_lt
      have HC : Hid (wr.cell? ⟨b, off + j, none⟩ = some (.int .u8 (x : Int))) := hideIt ((HBW.out.cell (p := ⟨b, off + j, none⟩) hbl).trans (by rw [← hx]; exact hcells j hjb))
      have HBL : Hid (b < wr.heap.size) := hideIt (Nat.lt_of_lt_of_le hbl HBW.out.size)
      have HT1 : Hid (wr.cell? ⟨g, x % 8, none⟩ = some (.string (strOf (hn (x % 8))))) := hideIt ((HB.out.cell (p := ⟨g, x % 8, none⟩) HG.out).trans (HT.out _ (Nat.mod_lt _ (by decide))))
      have HT2 : Hid (wr.cell? ⟨g, x / 8 % 8, none⟩ = some (.string (strOf (hn (x / 8 % 8))))) := hideIt ((HB.out.cell (p := ⟨g, x / 8 % 8, none⟩) HG.out).trans (HT.out _ (Nat.mod_lt _ (by decide))))
      have HGR : Hid (g < wr.heap.size) := hideIt (Nat.lt_of_lt_of_le HG.out HB.out.size)
      have EP : Hid (hmP bs (j + 1) = hmP bs j ++ [hnP x]) := hideIt (by rw [hmP, ← hx]; simp [List.getD, hjb])
      have H1 := hideIt h1
      clear hcells hbl hx hjb
      generalize hmP bs j = P at *
      go_wp2_with fail
      refine region_tail 20 [Fact.is (u9), Fact.is (.slice (some ⟨g, 0, none⟩) 8 8), Fact.is (.slice (some ⟨b, off, none⟩) len2 cap2), Fact.is (.int .i64 ((j : Nat) : Int)), Fact.is (.pointer (some ⟨b, off + j, none⟩)), Fact.is (.int .u8 ((x : Nat) : Int)), Fact.is (.int .u8 ((x % 8 : Nat) : Int)), Fact.is (.pointer (some ⟨g, 0 + x % 8, none⟩)), Fact.str (hn (x % 8)), Fact.is (.slice (some ⟨g, 0, none⟩) 8 8), Fact.is (.slice (some ⟨b, off, none⟩) len2 cap2), Fact.is (.int .i64 ((j : Nat) : Int)), Fact.is (.pointer (some ⟨b, off + j, none⟩)), Fact.is (.int .u8 ((x : Nat) : Int)), Fact.is (.int .u8 ((x / 8 : Nat) : Int)), Fact.is (.int .u8 ((x / 8 % 8 : Nat) : Int)), Fact.is (.pointer (some ⟨g, 0 + x / 8 % 8, none⟩)), Fact.str (hn (x / 8 % 8)), Fact.is (.agg #[.string (strOf (hn (x % 8))), .string (strOf (hn (x / 8 % 8)))]), Fact.prs [hnP x]] (by kernel_rfl) (by kernel_rfl) (by kernel_rfl) ⟨fun a w1 m => ?_, fun a w1 m => ?_, fun a w1 m => ?_, fun a w1 m => ?_, fun a w1 m => ?_, fun a w1 m => ?_, fun a w1 m => ?_, fun a w1 m => ?_, fun a w1 m => ?_, fun a w1 m => ?_, fun a w1 m => ?_, fun a w1 m => ?_, fun a w1 m => ?_, fun a w1 m => ?_, fun a w1 m => ?_, fun a w1 m => ?_, fun a w1 m => ?_, fun a w1 m => ?_, fun a w1 m => ?_, fun a w1 m => ?_, trivial⟩ ?_
      · exact ok_move (wanted_none rfl) (.tmp 9) rfl (m.old 9 rfl)
      · exact ok_move (wanted_none rfl) (.tmp 10) rfl (m.old 10 rfl)
      · exact ok_move (wanted_none rfl) (.tmp 2) rfl (m.old 2 rfl)
      · exact ok_move (wanted_none rfl) (.tmp 11) rfl (m.old 11 rfl)
      · exact ok_index (wanted_none rfl) (.tmp 38) (.tmp 39) rfl b off len2 cap2 j (m.has 2 38 rfl rfl) (m.has 3 39 rfl rfl) H1.out
      · exact ok_loadb (wanted_none rfl) (.tmp 40) rfl ⟨b, off + j, none⟩ _ (m.has 4 40 rfl rfl) ((m.grew.cell (p := ⟨b, off + j, none⟩) HBL.out).trans HC.out)
      · exact ok_bin (wanted_none rfl) _ _ _ (.tmp 41) _ rfl _ _ _ (m.has 5 41 rfl rfl) (rfl) rfl (run_rem8 x hx256)
      · exact ok_indexStr8 (wanted_none rfl) (.tmp 37) (.tmp 42) rfl g 0 8 8 (x % 8) (m.has 1 37 rfl rfl) (m.has 6 42 rfl rfl) (Nat.mod_lt _ (by decide))
      · exact ok_loadS (wanted_none rfl) (.tmp 43) rfl ⟨g, 0 + x % 8, none⟩ (hn (x % 8)) (m.has 7 43 rfl rfl) (by rw [Nat.zero_add]; exact (m.grew.cell (p := ⟨g, x % 8, none⟩) HGR.out).trans HT1.out)
      · exact ok_move (wanted_none rfl) (.tmp 10) rfl (m.old 10 rfl)
      · exact ok_move (wanted_none rfl) (.tmp 2) rfl (m.old 2 rfl)
      · exact ok_move (wanted_none rfl) (.tmp 11) rfl (m.old 11 rfl)
      · exact ok_index (wanted_none rfl) (.tmp 46) (.tmp 47) rfl b off len2 cap2 j (m.has 10 46 rfl rfl) (m.has 11 47 rfl rfl) H1.out
      · exact ok_loadb (wanted_none rfl) (.tmp 48) rfl ⟨b, off + j, none⟩ _ (m.has 12 48 rfl rfl) ((m.grew.cell (p := ⟨b, off + j, none⟩) HBL.out).trans HC.out)
      · exact ok_bin (wanted_none rfl) _ _ _ (.tmp 49) _ rfl _ _ _ (m.has 13 49 rfl rfl) (rfl) rfl (run_quo8 x hx256)
      · exact ok_bin (wanted_none rfl) _ _ _ (.tmp 50) _ rfl _ _ _ (m.has 14 50 rfl rfl) (rfl) rfl (run_rem8 (x / 8) (by omega))
      · exact ok_indexStr8 (wanted_none rfl) (.tmp 45) (.tmp 51) rfl g 0 8 8 (x / 8 % 8) (m.has 9 45 rfl rfl) (m.has 15 51 rfl rfl) (Nat.mod_lt _ (by decide))
      · exact ok_loadS (wanted_none rfl) (.tmp 52) rfl ⟨g, 0 + x / 8 % 8, none⟩ (hn (x / 8 % 8)) (m.has 16 52 rfl rfl) (by rw [Nat.zero_add]; exact (m.grew.cell (p := ⟨g, x / 8 % 8, none⟩) HGR.out).trans HT2.out)
      · exact ok_structP (wanted_none rfl) (.tmp 44) (.tmp 53) rfl _ _ (m.has 8 44 rfl rfl) (m.has 17 53 rfl rfl)
      · exact ok_rowPair (wanted_none rfl) (.tmp 54) rfl (hnP x) (m.has 18 54 rfl rfl)
      intro f w9 hg hf
      have f0 : f 0 = u9 := hf 0 (by decide)
      obtain ⟨A7, c7, h7, k1, k2, k3, k4⟩ := (hf 19 (by decide) : PairsV (f 19) [hnP x] w9).form
      have o6 := HO.out.keep hg
      have b6 := below_then HBW.out hg
      have b6' := below_then HB.out hg
      simp only [List.take, List.drop, putAll, Act.put, List.setIfInBounds_toArray, List.set_cons_succ, List.set_cons_zero]
      refine wpList_appP rfl (.tmp 36) (.tmp 55) rfl W.heap.size u9 P f0 o6 A7 c7 [hnP x] h7 k3 k4 (by simp; omega) b6'.size ?_
      intro v7 w7 o7 g7
      have O7 : Hid (POwn W.heap.size v7 (hmP bs (j + 1)) w7) := hideIt (by rw [EP.out]; exact o7)
      have B7 : Hid (Below W.heap.size W w7) := hideIt (b6'.grown g7 b6'.size (fun q hq => (o6.lt q hq).1))
      clear o7 g7 b6 b6' o6 k4 hf hg HO HB HBW
      go_wp2_with fail
      go_roundw
      case rel => exact ⟨j + 1, by omega, by omega, by go_num, O7.out, B7.out⟩
      case measure => simp [intOf]; omega
    · have hgo2 : ((j : Int) < (len2 : Int)) ∧ ¬ ((j : Int) < 20) ∨ ¬ ((j : Int) < (len2 : Int)) := by omega
      have VM := hideIt HO.out.reads
      have V0 := hideIt (V.out.keep HBW.out)
      have HME := hideIt (hmP_each bs j)
      have HT1 : Hid (wr.cell? ⟨g, k % 8, none⟩ = some (.string (strOf (hn (k % 8))))) := hideIt ((HB.out.cell (p := ⟨g, k % 8, none⟩) HG.out).trans (HT.out _ (Nat.mod_lt _ (by decide))))
      have HGR : Hid (g < wr.heap.size) := hideIt (Nat.lt_of_lt_of_le HG.out HB.out.size)
      have HNL := hideIt (hn_len (k % 8) (Nat.mod_lt _ (by decide)))
      have HPL : Hid ((hmP bs j).length ≤ 20) := hideIt (by rw [hpl]; exact hj20)
      clear hgo HT HG HO HB V
      generalize hmP bs j = P at *
      rcases hgo2 with ⟨k1, k2⟩ | k1
      all_goals
        go_wp2_with fail
        refine region_inv [Fact.prs x0, Fact.str (nm), Fact.texts (allL x0 nm), Fact.prs x0, Fact.str (nm), Fact.texts (allL x0 nm), Fact.is (.bool true), Fact.is (.bool true), Fact.prs P, Fact.is (.slice (some ⟨g, 0, none⟩) 8 8), Fact.is (.int .u8 ((k : Nat) : Int)), Fact.is (.int .u8 ((k % 8 : Nat) : Int)), Fact.is (.pointer (some ⟨g, 0 + k % 8, none⟩)), Fact.str (hn (k % 8)), Fact.texts (allL P (hn (k % 8))), Fact.prs P, Fact.is (.slice (some ⟨g, 0, none⟩) 8 8), Fact.is (.int .u8 ((k : Nat) : Int)), Fact.is (.int .u8 ((k % 8 : Nat) : Int)), Fact.is (.pointer (some ⟨g, 0 + k % 8, none⟩)), Fact.str (hn (k % 8)), Fact.texts (allL P (hn (k % 8))), Fact.is (.bool true), Fact.is (.bool true), Fact.is (.bool true)] (by kernel_rfl) (by kernel_rfl) ⟨fun a w1 m => ?_, fun a w1 m => ?_, fun a w1 m => ?_, fun a w1 m => ?_, fun a w1 m => ?_, fun a w1 m => ?_, fun a w1 m => ?_, fun a w1 m => ?_, fun a w1 m => ?_, fun a w1 m => ?_, fun a w1 m => ?_, fun a w1 m => ?_, fun a w1 m => ?_, fun a w1 m => ?_, fun a w1 m => ?_, fun a w1 m => ?_, fun a w1 m => ?_, fun a w1 m => ?_, fun a w1 m => ?_, fun a w1 m => ?_, fun a w1 m => ?_, fun a w1 m => ?_, fun a w1 m => ?_, fun a w1 m => ?_, fun a w1 m => ?_, trivial⟩ ?_
        · exact ok_move (wanted_none rfl) (.tmp 0) rfl (by rw [m.old 0 rfl]; exact V0.out.keep m.grew)
        · exact ok_move (wanted_none rfl) (.tmp 1) rfl (m.old 1 rfl)
        · exact ok_hall (wanted_none rfl) (.tmp 57) (.tmp 58) _ rfl x0 nm (show PairsV (a.eval (.tmp 57)) _ w1 from m.has 0 57 rfl rfl) (m.has 1 58 rfl rfl) (by have := HL0.out; omega) (by have := HLN.out; omega) HXE.out
        · exact ok_move (wanted_none rfl) (.tmp 0) rfl (by rw [m.old 0 rfl]; exact V0.out.keep m.grew)
        · exact ok_move (wanted_none rfl) (.tmp 1) rfl (m.old 1 rfl)
        · exact ok_refall (wanted_none rfl) (.tmp 60) (.tmp 61) _ rfl x0 nm (show PairsV (a.eval (.tmp 60)) _ w1 from m.has 3 60 rfl rfl) (m.has 4 61 rfl rfl) (by have := HL0.out; omega) (by have := HLN.out; omega) HXE.out
        · exact ok_sametexts (wanted_none rfl) (.tmp 59) (.tmp 62) _ rfl _ _ (show TextsV (a.eval (.tmp 59)) (allL x0 nm) w1 from m.has 2 59 rfl rfl) (show TextsV (a.eval (.tmp 62)) (allL x0 nm) w1 from m.has 5 62 rfl rfl) true (decide_eq_true rfl) (by have := allL_len x0 nm; have := HL0.out; omega)
        · exact ok_move (wanted_none rfl) (.tmp 63) rfl (m.has 6 63 rfl rfl)
        · exact ok_move (wanted_some 7 true rfl 64 rfl true (m.has 7 64 rfl rfl)) (.tmp 9) rfl (by rw [m.old 9 rfl]; exact VM.out.keep m.grew)
        · exact ok_move (wanted_some 7 true rfl 64 rfl true (m.has 7 64 rfl rfl)) (.tmp 10) rfl (m.old 10 rfl)
        · exact ok_move (wanted_some 7 true rfl 64 rfl true (m.has 7 64 rfl rfl)) (.tmp 3) rfl (m.old 3 rfl)
        · exact ok_bin (wanted_some 7 true rfl 64 rfl true (m.has 7 64 rfl rfl)) _ _ _ (.tmp 67) _ rfl _ _ _ (m.has 10 67 rfl rfl) (rfl) rfl (run_rem8 k HK256.out)
        · exact ok_indexStr8 (wanted_some 7 true rfl 64 rfl true (m.has 7 64 rfl rfl)) (.tmp 66) (.tmp 68) rfl g 0 8 8 (k % 8) (m.has 9 66 rfl rfl) (m.has 11 68 rfl rfl) H8.out
        · exact ok_loadS (wanted_some 7 true rfl 64 rfl true (m.has 7 64 rfl rfl)) (.tmp 69) rfl ⟨g, 0 + k % 8, none⟩ (hn (k % 8)) (m.has 12 69 rfl rfl) (by rw [Nat.zero_add]; exact (m.grew.cell (p := ⟨g, k % 8, none⟩) HGR.out).trans HT1.out)
        · exact ok_hall (wanted_some 7 true rfl 64 rfl true (m.has 7 64 rfl rfl)) (.tmp 65) (.tmp 70) _ rfl P (hn (k % 8)) (show PairsV (a.eval (.tmp 65)) _ w1 from m.has 8 65 rfl rfl) (m.has 13 70 rfl rfl) (by have := HPL.out; omega) (by have := HNL.out; omega) HME.out
        · exact ok_move (wanted_some 7 true rfl 64 rfl true (m.has 7 64 rfl rfl)) (.tmp 9) rfl (by rw [m.old 9 rfl]; exact VM.out.keep m.grew)
        · exact ok_move (wanted_some 7 true rfl 64 rfl true (m.has 7 64 rfl rfl)) (.tmp 10) rfl (m.old 10 rfl)
        · exact ok_move (wanted_some 7 true rfl 64 rfl true (m.has 7 64 rfl rfl)) (.tmp 3) rfl (m.old 3 rfl)
        · exact ok_bin (wanted_some 7 true rfl 64 rfl true (m.has 7 64 rfl rfl)) _ _ _ (.tmp 74) _ rfl _ _ _ (m.has 17 74 rfl rfl) (rfl) rfl (run_rem8 k HK256.out)
        · exact ok_indexStr8 (wanted_some 7 true rfl 64 rfl true (m.has 7 64 rfl rfl)) (.tmp 73) (.tmp 75) rfl g 0 8 8 (k % 8) (m.has 16 73 rfl rfl) (m.has 18 75 rfl rfl) H8.out
        · exact ok_loadS (wanted_some 7 true rfl 64 rfl true (m.has 7 64 rfl rfl)) (.tmp 76) rfl ⟨g, 0 + k % 8, none⟩ (hn (k % 8)) (m.has 19 76 rfl rfl) (by rw [Nat.zero_add]; exact (m.grew.cell (p := ⟨g, k % 8, none⟩) HGR.out).trans HT1.out)
        · exact ok_refall (wanted_some 7 true rfl 64 rfl true (m.has 7 64 rfl rfl)) (.tmp 72) (.tmp 77) _ rfl P (hn (k % 8)) (show PairsV (a.eval (.tmp 72)) _ w1 from m.has 15 72 rfl rfl) (m.has 20 77 rfl rfl) (by have := HPL.out; omega) (by have := HNL.out; omega) HME.out
        · exact ok_sametexts (wanted_some 7 true rfl 64 rfl true (m.has 7 64 rfl rfl)) (.tmp 71) (.tmp 78) _ rfl _ _ (show TextsV (a.eval (.tmp 71)) (allL P (hn (k % 8))) w1 from m.has 14 71 rfl rfl) (show TextsV (a.eval (.tmp 78)) (allL P (hn (k % 8))) w1 from m.has 21 78 rfl rfl) true (decide_eq_true rfl) (by have := allL_len P (hn (k % 8)); have := HPL.out; omega)
        · exact ok_pickT (wanted_none rfl) (.tmp 64) _ _ rfl (m.has 7 64 rfl rfl) (m.has 22 79 rfl rfl)
        · exact ok_assign (wanted_none rfl) (.tmp 80) rfl (m.has 23 80 rfl rfl)
        intro f w9 hg hf
        exact fin_ret ‹_› rfl rfl rfl 24 rfl ⟨congrArg Ending.returned (hf 24 (by decide)), below_then HBW.out hg⟩
end Go.Proofs.YtfmkmgnaalkgoaaDoor
