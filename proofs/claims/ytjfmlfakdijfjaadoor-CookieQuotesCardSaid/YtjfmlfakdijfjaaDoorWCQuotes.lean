/- CookieQuotes: the walk. -/
import Derived.Test.YtjfmlfakdijfjaaDoorCookKnown
import Derived.Test.YtjfmlfakdijfjaaDoorCookLaid
import Derived.Test.YtjfmlfakdijfjaaDoorCookFacts
namespace Go.Proofs.YtjfmlfakdijfjaaDoor
open Go.ChangeShapes Go.WideShapes Go.ChangeAt Go.RowKit
set_option linter.unusedVariables false
set_option linter.unusedSimpArgs false

theorem n_tok : tokenL [110] = true := by decide +kernel
/-- one cookie in a row that was told -/
theorem one_pair {v : Value} {base : Nat} {w : World} {x : PairL} (h : POwn base v [x] w) : ∃ g o c, v = .slice (some ⟨g, o, none⟩) 1 c ∧ g < w.heap.size ∧ w.cell? ⟨g, o + 0 * 2, none⟩ = some (.string (strOf x.1)) ∧ w.cell? ⟨g, o + 0 * 2 + 1, none⟩ = some (.string (strOf x.2)) := by
  obtain ⟨A, c, hv, h1, h2, h3, h4⟩ := h.open
  obtain ⟨g, o, rfl, hg, hc⟩ := h4 (by simp)
  obtain ⟨k1, k2⟩ := hc 0 x rfl
  exact ⟨g, o, c, hv, hg, k1, k2⟩
set_option maxRecDepth 8000 in
set_option maxHeartbeats 4000000 in
theorem cookieQuotes_walk (a0 : Option Addr) (len0 cap0 : Nat) (z0 : List Int) (w : World) (w0 : IsRow .u8 w a0 len0 cap0 z0) (hT : Tabs w) (r0 : cap0 ≤ 140737488355328) :
    Calls Tryd.prog 7 #[.slice a0 len0 cap0] w fun e w' => e = .returned (.bool true) ∧ Below w.heap.size w w' := by
  obtain ⟨_, _, hlc0, _⟩ := w0.bytes
  obtain ⟨bs, hl0, _, hp0⟩ := row_piece w0 (by omega)
  have HPC := hideIt hp0
  have HLN := hideIt hl0
  have HT := hideIt hT
  clear w0 hT hlc0 hp0 hl0 r0
  go_enter Tryd.func7, Tryd.ntmps7
  go_wp2
  go_loopw [3, 4] (fun s i wr => ∃ (j : Nat) (V : List UInt8), s = .string (strOf V) ∧ i = .int .i64 (j : Int) ∧ j ≤ 40 ∧ V.length = j ∧ octL V = true ∧ Below w.heap.size w wr) (fun s i wr => 40 - (intOf i).toNat)
  case atStart => exact ⟨0, [], rfl, rfl, by omega, rfl, rfl, Below.refl _ _⟩
  case round =>
    obtain ⟨j, V, rfl, rfl, hj, hvl, hvo, hb⟩ := hrel
    have HBW := hideIt hb
    have HVO := hideIt hvo
    clear hb hvo
    by_cases hgo : j < len0 ∧ j < 40
    · obtain ⟨h1, h2⟩ := hgo
      have h1' : (j : Int) < (len0 : Int) := by omega
      have h2' : (j : Int) < 40 := by omega
      have hwj : IntKind.i64.wrap ((j : Int) + 1) = (j : Int) + 1 := IntWalk.i64_in _ (by omega)
      obtain ⟨b, off, rfl, hbl, hcells⟩ := HPC.out.bytes (by have := HLN.out; simp only; omega)
      have hcl := hcells j (by have := HLN.out; simp only; omega)
      obtain ⟨x, hx⟩ : ∃ x, (bs[j]'(by have := HLN.out; omega)).toNat = x := ⟨_, rfl⟩
      have hx256 : x < 256 := by rw [← hx]; exact UInt8.toNat_lt _
      simp only [hx] at hcl
      obtain ⟨q, hq⟩ : ∃ q, x % 7 = q := ⟨_, rfl⟩
      have hq7 : q < 7 := by omega
      obtain ⟨z, hz⟩ : ∃ z, sevS.getD q 0 = z := ⟨_, rfl⟩
      have hzo : octB z = true := by rw [← hz]; exact sev_oct ⟨q, hq7⟩
      have HX := hideIt hx256
      have HXQ := hideIt hq
      have HQ := hideIt hq7
      have HZ : Hid ((sevS.drop q).take (q + 1 - q) = [z]) := hideIt (by rw [cut_one sevS q hq7, hz])
      have HJ : Hid (j < len0) := hideIt h1
      have HBL : Hid (b < wr.heap.size) := hideIt (Nat.lt_of_lt_of_le hbl HBW.out.size)
      have HCL : Hid (wr.cell? ⟨b, off + j, none⟩ = some (.int .u8 (x : Int))) := hideIt ((HBW.out.cell (p := ⟨b, off + j, none⟩) hbl).trans hcl)
      have HVN : Hid (octL (V ++ [z]) = true) := hideIt (oct_snoc HVO.out hzo)
      clear hcl hcells hbl hx hx256 hq hq7 hz hzo
      go_upto_region 5 with fail
      refine region_inv [Fact.str (V), Fact.is (.slice (some ⟨b, off, none⟩) len0 cap0), Fact.is (.int .i64 ((j : Nat) : Int)), Fact.is (.pointer (some ⟨b, off + j, none⟩)), Fact.is (.int .u8 (x : Int)), Fact.is (.int .u8 (q : Int)), Fact.is (.slice (some ⟨b, off, none⟩) len0 cap0), Fact.is (.int .i64 ((j : Nat) : Int)), Fact.is (.pointer (some ⟨b, off + j, none⟩)), Fact.is (.int .u8 (x : Int)), Fact.is (.int .u8 (q : Int)), Fact.is (.int .u8 ((q + 1 : Nat) : Int)), Fact.str ([z]), Fact.str (V ++ [z]), Fact.str (V ++ [z])] (by kernel_rfl) (by kernel_rfl) ⟨fun a w1 m => ?_, fun a w1 m => ?_, fun a w1 m => ?_, fun a w1 m => ?_, fun a w1 m => ?_, fun a w1 m => ?_, fun a w1 m => ?_, fun a w1 m => ?_, fun a w1 m => ?_, fun a w1 m => ?_, fun a w1 m => ?_, fun a w1 m => ?_, fun a w1 m => ?_, fun a w1 m => ?_, fun a w1 m => ?_, trivial⟩ ?_
      · exact ok_move (wanted_none rfl) (.tmp 3) rfl (m.old 3 rfl)
      · exact ok_move (wanted_none rfl) (.tmp 0) rfl (m.old 0 rfl)
      · exact ok_move (wanted_none rfl) (.tmp 4) rfl (m.old 4 rfl)
      · exact ok_index (wanted_none rfl) (.tmp 24) (.tmp 25) rfl b off len0 cap0 j (m.has 1 24 rfl rfl) (m.has 2 25 rfl rfl) HJ.out
      · exact ok_loadb (wanted_none rfl) (.tmp 26) rfl ⟨b, off + j, none⟩ _ (m.has 3 26 rfl rfl) ((m.grew.cell (p := ⟨b, off + j, none⟩) HBL.out).trans HCL.out)
      · exact ok_bin (wanted_none rfl) _ _ _ (.tmp 27) _ rfl _ _ _ (m.has 4 27 rfl rfl) (rfl) rfl (run_rem7 x q HX.out HXQ.out)
      · exact ok_move (wanted_none rfl) (.tmp 0) rfl (m.old 0 rfl)
      · exact ok_move (wanted_none rfl) (.tmp 4) rfl (m.old 4 rfl)
      · exact ok_index (wanted_none rfl) (.tmp 29) (.tmp 30) rfl b off len0 cap0 j (m.has 6 29 rfl rfl) (m.has 7 30 rfl rfl) HJ.out
      · exact ok_loadb (wanted_none rfl) (.tmp 31) rfl ⟨b, off + j, none⟩ _ (m.has 8 31 rfl rfl) ((m.grew.cell (p := ⟨b, off + j, none⟩) HBL.out).trans HCL.out)
      · exact ok_bin (wanted_none rfl) _ _ _ (.tmp 32) _ rfl _ _ _ (m.has 9 32 rfl rfl) (rfl) rfl (run_rem7 x q HX.out HXQ.out)
      · exact ok_bin (wanted_none rfl) _ _ _ (.tmp 33) _ rfl _ _ _ (m.has 10 33 rfl rfl) (rfl) rfl (run_add1 q (by have := HQ.out; omega))
      · exact ok_strMid (wanted_none rfl) _ (.tmp 28) (.tmp 34) rfl sevS .u8 .u8 q (q + 1) rfl (m.has 5 28 rfl rfl) (m.has 11 34 rfl rfl) (by omega) (by have := HQ.out; show _ ≤ 7; omega) _ HZ.out
      · exact ok_strcat (wanted_none rfl) (.tmp 23) (.tmp 35) _ rfl _ _ _ (m.has 0 23 rfl rfl) (m.has 12 35 rfl rfl) (by simp; omega) (rfl)
      · exact ok_assign (wanted_none rfl) (.tmp 36) rfl (m.has 13 36 rfl rfl)
      intro f w9 hg hf
      have e14 : f 14 = .string (strOf (V ++ [z])) := hf 14 (by decide)
      have B9 := hideIt (below_then HBW.out hg)
      clear hf
      simp only [List.take, List.drop, putAll, Act.put, List.setIfInBounds_toArray, List.set_cons_succ, List.set_cons_zero]
      rw [e14]
      clear e14
      go_wp2_with fail
      go_roundw
      case rel => exact ⟨j + 1, V ++ [z], rfl, by go_num, by omega, by simp; omega, HVN.out, B9.out⟩
      case measure => simp [intOf]; omega
    · have HMW := hideIt (HT.out.1.keep HBW.out)
      have hgo2 : ((j : Int) < (len0 : Int) ∧ ¬ (j : Int) < 40) ∨ ¬ ((j : Int) < (len0 : Int)) := by omega
      have C1 : Hid ((⟨#[110, 61, 34]⟩ : ByteArray) ++ strOf V ++ ⟨#[34]⟩ = strOf ([110] ++ 61 :: 34 :: (V ++ [34]))) := hideIt (by
        rw [show (⟨#[110, 61, 34]⟩ : ByteArray) = strOf [110, 61, 34] from rfl, show (⟨#[34]⟩ : ByteArray) = strOf [34] from rfl, strOf_append, strOf_append]; rfl)
      have C2 : Hid ((⟨#[110, 61]⟩ : ByteArray) ++ strOf V = strOf (tellC ([110], V))) := hideIt (by
        rw [show (⟨#[110, 61]⟩ : ByteArray) = strOf [110, 61] from rfl, strOf_append]; rfl)
      have C3 : Hid ((⟨#[110, 61, 34]⟩ : ByteArray) ++ strOf V = strOf ([110] ++ 61 :: 34 :: V)) := hideIt (by
        rw [show (⟨#[110, 61, 34]⟩ : ByteArray) = strOf [110, 61, 34] from rfl, strOf_append]; rfl)
      have C4 : Hid ((⟨#[110, 61]⟩ : ByteArray) ++ strOf V ++ ⟨#[59]⟩ = strOf ([110] ++ 61 :: (V ++ [59]))) := hideIt (by
        rw [show (⟨#[110, 61]⟩ : ByteArray) = strOf [110, 61] from rfl, show (⟨#[59]⟩ : ByteArray) = strOf [59] from rfl, strOf_append, strOf_append]; rfl)
      have P1 := hideIt (fun u (h : Below w.heap.size w u) => cparse_any ([110] ++ 61 :: 34 :: (V ++ [34])) u (by simp; omega) (HT.out.1.keep h))
      have P2 := hideIt (fun u (h : Below w.heap.size w u) => cparse_any (tellC ([110], V)) u (by simp [tellC]; omega) (HT.out.1.keep h))
      have P3 := hideIt (fun u (h : Below w.heap.size w u) => cparse_any ([110] ++ 61 :: 34 :: V) u (by simp; omega) (HT.out.1.keep h))
      have P4 := hideIt (fun u (h : Below w.heap.size w u) => cparse_any ([110] ++ 61 :: (V ++ [59])) u (by simp; omega) (HT.out.1.keep h))
      unfold CParsePost at P1 P2 P3 P4
      rw [quoted n_tok HVO.out] at P1
      rw [cookies_one (p := ([110], V)) (by simp [okC, n_tok, HVO.out])] at P2
      rw [half_quoted n_tok HVO.out] at P3
      rw [semi_behind n_tok HVO.out] at P4
      simp only [Option.isSome_some, Option.isSome_none, Option.getD_some, Option.getD_none] at P1 P2 P3 P4
      have hsz : (strOf V).size ≤ 40 := by rw [strOf_size]; omega
      obtain ⟨s1, e1⟩ : ∃ s, strOf ([110] ++ 61 :: 34 :: (V ++ [34])) = s := ⟨_, rfl⟩
      obtain ⟨s2, e2⟩ : ∃ s, strOf (tellC ([110], V)) = s := ⟨_, rfl⟩
      obtain ⟨s3, e3⟩ : ∃ s, strOf ([110] ++ 61 :: 34 :: V) = s := ⟨_, rfl⟩
      obtain ⟨s4, e4⟩ : ∃ s, strOf ([110] ++ 61 :: (V ++ [59])) = s := ⟨_, rfl⟩
      rw [e1] at C1 P1
      rw [e2] at C2 P2
      rw [e3] at C3 P3
      rw [e4] at C4 P4
      have HV := hideIt hvl
      clear e1 e2 e3 e4 hgo HPC HLN hvl
      obtain ⟨sv, hsv⟩ : ∃ s, strOf V = s := ⟨_, rfl⟩
      have HSV := hideIt hsv
      rw [hsv] at hsz C1 C2 C3 C4 ⊢
      clear hsv
      rcases hgo2 with ⟨gq1, gq2⟩ | gq1
      all_goals
        go_wp2_with fail
        rw [C1.out]
        refine (P1.out _ HBW.out).mono ?_
        rintro e u1 ⟨v1, rfl, ho1, hb⟩
        have B1 := hideIt (below_then HBW.out hb)
        obtain ⟨g1, o1, c1, rfl, hg1, ha1, hb1⟩ := one_pair ho1
        clear hb ho1 P1 C1
        go_wp2_with fail
        rw [C2.out]
        refine (P2.out _ B1.out).mono ?_
        rintro e u2 ⟨v2, rfl, ho2, hb⟩
        have B2 := hideIt (below_then B1.out hb)
        have hlt1 := Nat.lt_of_lt_of_le hg1 hb.size
        replace ha1 := (hb.cell (p := ⟨g1, o1 + 0 * 2, none⟩) hg1).trans ha1
        replace hb1 := (hb.cell (p := ⟨g1, o1 + 0 * 2 + 1, none⟩) hg1).trans hb1
        obtain ⟨g2, o2, c2, rfl, hg2, ha2, hb2⟩ := one_pair ho2
        clear hb ho2 P2 C2 B1 hg1
        go_wp2_with fail
        rw [C3.out]
        refine (P3.out _ B2.out).mono ?_
        rintro e u3 ⟨v3, rfl, ho3, hb⟩
        obtain ⟨A3, c3, rfl, _⟩ := ho3.open
        have B3 := hideIt (below_then B2.out hb)
        have hlt1' := Nat.lt_of_lt_of_le hlt1 hb.size
        have hlt2' := Nat.lt_of_lt_of_le hg2 hb.size
        replace ha1 := (hb.cell (p := ⟨g1, o1 + 0 * 2, none⟩) hlt1).trans ha1
        replace hb1 := (hb.cell (p := ⟨g1, o1 + 0 * 2 + 1, none⟩) hlt1).trans hb1
        replace ha2 := (hb.cell (p := ⟨g2, o2 + 0 * 2, none⟩) hg2).trans ha2
        replace hb2 := (hb.cell (p := ⟨g2, o2 + 0 * 2 + 1, none⟩) hg2).trans hb2
        clear hb ho3 P3 C3 B2 hg2 hlt1
        go_wp2_with fail
        rw [C4.out]
        refine (P4.out _ B3.out).mono ?_
        rintro e u4 ⟨v4, rfl, ho4, hb⟩
        obtain ⟨A4, c4, rfl, _⟩ := ho4.open
        have HBW2 := hideIt (below_then B3.out hb)
        have HG1 := hideIt (Nat.lt_of_lt_of_le hlt1' hb.size)
        have HG2 := hideIt (Nat.lt_of_lt_of_le hlt2' hb.size)
        have HA1 := hideIt ((hb.cell (p := ⟨g1, o1 + 0 * 2, none⟩) hlt1').trans ha1)
        have HB1 := hideIt ((hb.cell (p := ⟨g1, o1 + 0 * 2 + 1, none⟩) hlt1').trans hb1)
        have HA2 := hideIt ((hb.cell (p := ⟨g2, o2 + 0 * 2, none⟩) hlt2').trans ha2)
        have HB2 := hideIt ((hb.cell (p := ⟨g2, o2 + 0 * 2 + 1, none⟩) hlt2').trans hb2)
        clear hb ho4 P4 C4 B3 ha1 hb1 ha2 hb2 hlt1' hlt2' HBW HMW
        have HMW := hideIt (HT.out.1.keep HBW2.out)
        have HPW := hideIt (HT.out.2.keep HBW2.out)
        have HBW := HBW2
        rw [← HSV.out]
        go_upto_region 10 with fail
        refine region_inv [Fact.is (.bool true), Fact.is (.bool true), Fact.is (.bool true), Fact.is (.bool true), Fact.is (.bool true), Fact.is (.bool true), Fact.is (.bool true), Fact.is (.bool true), Fact.is (.slice (some ⟨g1, o1, none⟩) 1 c1), Fact.is (.int .i64 ((1 : Nat) : Int)), Fact.is (.bool true), Fact.is (.bool true), Fact.is (.bool true), Fact.is (.slice (some ⟨g2, o2, none⟩) 1 c2), Fact.is (.int .i64 ((1 : Nat) : Int)), Fact.is (.bool true), Fact.is (.bool true), Fact.is (.bool true), Fact.is (.slice (some ⟨g1, o1, none⟩) 1 c1), Fact.is (.pointer (some ⟨g1, o1 + 0 * 2, none⟩)), Fact.is (.agg #[.string (strOf [110]), .string (strOf V)]), Fact.is (.slice (some ⟨g2, o2, none⟩) 1 c2), Fact.is (.pointer (some ⟨g2, o2 + 0 * 2, none⟩)), Fact.is (.agg #[.string (strOf [110]), .string (strOf V)]), Fact.is (.bool true), Fact.is (.bool true), Fact.is (.bool true), Fact.is (.slice (some ⟨g1, o1, none⟩) 1 c1), Fact.is (.pointer (some ⟨g1, o1 + 0 * 2, none⟩)), Fact.is (.pointer (some ⟨g1, o1 + 0 * 2 + 1, none⟩)), Fact.str (V), Fact.str (V), Fact.is (.bool true), Fact.is (.bool true), Fact.is (.bool true), Fact.is (.bool false), Fact.is (.bool true), Fact.is (.bool true), Fact.is (.bool true), Fact.is (.bool false), Fact.is (.bool true), Fact.is (.bool true), Fact.is (.bool true)] (by kernel_rfl) (by kernel_rfl) ⟨fun a w1 m => ?_, fun a w1 m => ?_, fun a w1 m => ?_, fun a w1 m => ?_, fun a w1 m => ?_, fun a w1 m => ?_, fun a w1 m => ?_, fun a w1 m => ?_, fun a w1 m => ?_, fun a w1 m => ?_, fun a w1 m => ?_, fun a w1 m => ?_, fun a w1 m => ?_, fun a w1 m => ?_, fun a w1 m => ?_, fun a w1 m => ?_, fun a w1 m => ?_, fun a w1 m => ?_, fun a w1 m => ?_, fun a w1 m => ?_, fun a w1 m => ?_, fun a w1 m => ?_, fun a w1 m => ?_, fun a w1 m => ?_, fun a w1 m => ?_, fun a w1 m => ?_, fun a w1 m => ?_, fun a w1 m => ?_, fun a w1 m => ?_, fun a w1 m => ?_, fun a w1 m => ?_, fun a w1 m => ?_, fun a w1 m => ?_, fun a w1 m => ?_, fun a w1 m => ?_, fun a w1 m => ?_, fun a w1 m => ?_, fun a w1 m => ?_, fun a w1 m => ?_, fun a w1 m => ?_, fun a w1 m => ?_, fun a w1 m => ?_, fun a w1 m => ?_, trivial⟩ ?_
        · exact ok_fn (wanted_none rfl) _ _ _ rfl _ map0 go_known11 (known11_any w1 (HMW.out.keep m.grew) (HPW.out.keep m.grew)) (fun e w' ⟨h1, h2⟩ => ⟨_, h1, rfl, h2⟩)
        · exact ok_move (wanted_none rfl) (.tmp 63) rfl (m.has 0 63 rfl rfl)
        · exact ok_move (wanted_some 1 true rfl 64 rfl true (m.has 1 64 rfl rfl)) (.tmp 6) rfl (m.old 6 rfl)
        · exact ok_pickT (wanted_none rfl) (.tmp 64) _ _ rfl (m.has 1 64 rfl rfl) (m.has 2 65 rfl rfl)
        · exact ok_move (wanted_none rfl) (.tmp 66) rfl (m.has 3 66 rfl rfl)
        · exact ok_move (wanted_some 4 true rfl 67 rfl true (m.has 4 67 rfl rfl)) (.tmp 8) rfl (m.old 8 rfl)
        · exact ok_pickT (wanted_none rfl) (.tmp 67) _ _ rfl (m.has 4 67 rfl rfl) (m.has 5 68 rfl rfl)
        · exact ok_move (wanted_none rfl) (.tmp 69) rfl (m.has 6 69 rfl rfl)
        · exact ok_move (wanted_some 7 true rfl 70 rfl true (m.has 7 70 rfl rfl)) (.tmp 5) rfl (m.old 5 rfl)
        · exact ok_lenP (wanted_some 7 true rfl 70 rfl true (m.has 7 70 rfl rfl)) (.tmp 71) rfl _ _ _ (m.has 8 71 rfl rfl)
        · exact ok_inteq (wanted_some 7 true rfl 70 rfl true (m.has 7 70 rfl rfl)) (.tmp 72) (.const (.int .i64 1)) _ rfl _ _ (m.has 9 72 rfl rfl) (rfl) _ (by simp)
        · exact ok_pickT (wanted_none rfl) (.tmp 70) _ _ rfl (m.has 7 70 rfl rfl) (m.has 10 73 rfl rfl)
        · exact ok_move (wanted_none rfl) (.tmp 74) rfl (m.has 11 74 rfl rfl)
        · exact ok_move (wanted_some 12 true rfl 75 rfl true (m.has 12 75 rfl rfl)) (.tmp 7) rfl (m.old 7 rfl)
        · exact ok_lenP (wanted_some 12 true rfl 75 rfl true (m.has 12 75 rfl rfl)) (.tmp 76) rfl _ _ _ (m.has 13 76 rfl rfl)
        · exact ok_inteq (wanted_some 12 true rfl 75 rfl true (m.has 12 75 rfl rfl)) (.tmp 77) (.const (.int .i64 1)) _ rfl _ _ (m.has 14 77 rfl rfl) (rfl) _ (by simp)
        · exact ok_pickT (wanted_none rfl) (.tmp 75) _ _ rfl (m.has 12 75 rfl rfl) (m.has 15 78 rfl rfl)
        · exact ok_move (wanted_none rfl) (.tmp 79) rfl (m.has 16 79 rfl rfl)
        · exact ok_move (wanted_some 17 true rfl 80 rfl true (m.has 17 80 rfl rfl)) (.tmp 5) rfl (m.old 5 rfl)
        · exact ok_indexP (wanted_some 17 true rfl 80 rfl true (m.has 17 80 rfl rfl)) (.tmp 81) (.const (.int .i64 0)) rfl g1 o1 1 c1 0 (m.has 18 81 rfl rfl) rfl (by decide)
        · exact ok_loadPr (wanted_some 17 true rfl 80 rfl true (m.has 17 80 rfl rfl)) (.tmp 82) rfl g1 (o1 + 0 * 2) ([110], V) (m.has 19 82 rfl rfl) ((m.grew.cell (p := ⟨g1, o1 + 0 * 2, none⟩) HG1.out).trans HA1.out) ((m.grew.cell (p := ⟨g1, o1 + 0 * 2 + 1, none⟩) HG1.out).trans HB1.out)
        · exact ok_move (wanted_some 17 true rfl 80 rfl true (m.has 17 80 rfl rfl)) (.tmp 7) rfl (m.old 7 rfl)
        · exact ok_indexP (wanted_some 17 true rfl 80 rfl true (m.has 17 80 rfl rfl)) (.tmp 84) (.const (.int .i64 0)) rfl g2 o2 1 c2 0 (m.has 21 84 rfl rfl) rfl (by decide)
        · exact ok_loadPr (wanted_some 17 true rfl 80 rfl true (m.has 17 80 rfl rfl)) (.tmp 85) rfl g2 (o2 + 0 * 2) ([110], V) (m.has 22 85 rfl rfl) ((m.grew.cell (p := ⟨g2, o2 + 0 * 2, none⟩) HG2.out).trans HA2.out) ((m.grew.cell (p := ⟨g2, o2 + 0 * 2 + 1, none⟩) HG2.out).trans HB2.out)
        · exact ok_preq (wanted_some 17 true rfl 80 rfl true (m.has 17 80 rfl rfl)) (.tmp 83) (.tmp 86) _ rfl ([110], V) ([110], V) (m.has 20 83 rfl rfl) (m.has 23 86 rfl rfl) rfl
        · exact ok_pickT (wanted_none rfl) (.tmp 80) _ _ rfl (m.has 17 80 rfl rfl) (m.has 24 87 rfl rfl)
        · exact ok_move (wanted_none rfl) (.tmp 88) rfl (m.has 25 88 rfl rfl)
        · exact ok_move (wanted_some 26 true rfl 89 rfl true (m.has 26 89 rfl rfl)) (.tmp 5) rfl (m.old 5 rfl)
        · exact ok_indexP (wanted_some 26 true rfl 89 rfl true (m.has 26 89 rfl rfl)) (.tmp 90) (.const (.int .i64 0)) rfl g1 o1 1 c1 0 (m.has 27 90 rfl rfl) rfl (by decide)
        · exact ok_field1 (wanted_some 26 true rfl 89 rfl true (m.has 26 89 rfl rfl)) (.tmp 91) rfl g1 (o1 + 0 * 2) (m.has 28 91 rfl rfl)
        · exact ok_loadS (wanted_some 26 true rfl 89 rfl true (m.has 26 89 rfl rfl)) (.tmp 92) rfl ⟨g1, o1 + 0 * 2 + 1, none⟩ V (m.has 29 92 rfl rfl) ((m.grew.cell (p := ⟨g1, o1 + 0 * 2 + 1, none⟩) HG1.out).trans HB1.out)
        · exact ok_move (wanted_some 26 true rfl 89 rfl true (m.has 26 89 rfl rfl)) (.tmp 3) rfl (m.old 3 rfl)
        · exact ok_streq (wanted_some 26 true rfl 89 rfl true (m.has 26 89 rfl rfl)) (.tmp 93) (.tmp 94) _ rfl _ _ (m.has 30 93 rfl rfl) (m.has 31 94 rfl rfl) _ (decide_eq_true rfl)
        · exact ok_pickT (wanted_none rfl) (.tmp 89) _ _ rfl (m.has 26 89 rfl rfl) (m.has 32 95 rfl rfl)
        · exact ok_move (wanted_none rfl) (.tmp 96) rfl (m.has 33 96 rfl rfl)
        · exact ok_move (wanted_some 34 true rfl 97 rfl true (m.has 34 97 rfl rfl)) (.tmp 10) rfl (m.old 10 rfl)
        · exact ok_not1 (wanted_some 34 true rfl 97 rfl true (m.has 34 97 rfl rfl)) _ (.tmp 98) rfl false (m.has 35 98 rfl rfl) rfl
        · exact ok_pickT (wanted_none rfl) (.tmp 97) _ _ rfl (m.has 34 97 rfl rfl) (m.has 36 99 rfl rfl)
        · exact ok_move (wanted_none rfl) (.tmp 100) rfl (m.has 37 100 rfl rfl)
        · exact ok_move (wanted_some 38 true rfl 101 rfl true (m.has 38 101 rfl rfl)) (.tmp 12) rfl (m.old 12 rfl)
        · exact ok_not1 (wanted_some 38 true rfl 101 rfl true (m.has 38 101 rfl rfl)) _ (.tmp 102) rfl false (m.has 39 102 rfl rfl) rfl
        · exact ok_pickT (wanted_none rfl) (.tmp 101) _ _ rfl (m.has 38 101 rfl rfl) (m.has 40 103 rfl rfl)
        · exact ok_assign (wanted_none rfl) (.tmp 104) rfl (m.has 41 104 rfl rfl)
        intro f w9 hg hf
        exact fin_ret ‹_› rfl rfl rfl 42 rfl ⟨congrArg Ending.returned (hf 42 (by decide)), below_then HBW.out hg⟩
end Go.Proofs.YtjfmlfakdijfjaaDoor
