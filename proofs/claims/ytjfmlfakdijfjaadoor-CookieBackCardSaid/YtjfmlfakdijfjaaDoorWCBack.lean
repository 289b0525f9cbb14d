/- CookieBack: the walk. -/
import Derived.Test.YtjfmlfakdijfjaaDoorCookKnown
import Derived.Test.YtjfmlfakdijfjaaDoorCookLaid
import Derived.Test.YtjfmlfakdijfjaaDoorCookFacts
import Derived.Test.YtjfmlfakdijfjaaDoorCookRead
import Derived.Test.YtjfmlfakdijfjaaDoorWCTwice
import Derived.Test.YtjfmlfakdijfjaaDoorLetter
namespace Go.Proofs.YtjfmlfakdijfjaaDoor
open Go.ChangeShapes Go.WideShapes Go.ChangeAt Go.RowKit
set_option linter.unusedVariables false
set_option linter.unusedSimpArgs false

theorem run_rem16q (x p : Nat) (hx : x < 256) (hp : x % 16 = p) (w : World) : (binOp .rem 5 (.int .u8 (x : Int)) (.int .u8 16)).run Tryd.prog w = .ok (.int .u8 (p : Int)) w := by
  subst hp; exact run_rem16 x hx w
theorem flat_snoc2 (l : List PairL) (c : UInt8) : strOf (flatC l) ++ ⟨#[99]⟩ ++ strOf [c] ++ ⟨#[61, 49, 59, 32]⟩ = strOf (flatC (l ++ [([99, c], [49])])) := by
  rw [show (⟨#[99]⟩ : ByteArray) = strOf [99] from rfl, show (⟨#[61, 49, 59, 32]⟩ : ByteArray) = strOf [61, 49, 59, 32] from rfl, strOf_append, strOf_append, strOf_append]
  simp [flatC, tellC]
theorem flat_len2 (l : List PairL) (c : UInt8) : (flatC (l ++ [([99, c], [49])])).length = (flatC l).length + 6 := by
  simp [flatC, tellC]
theorem rem_big (na : Nat) : Int.tmod (na : Int) 1000000000 = ((na % 1000000000 : Nat) : Int) := by rw [Int.tmod_eq_emod_of_nonneg (by omega)]; omega
set_option maxRecDepth 8000 in
set_option maxHeartbeats 4000000 in
theorem cookieBack_walk (a0 : Option Addr) (len0 cap0 : Nat) (z0 : List Int) (a1 : Int) (a2 : Option Addr) (len2 cap2 : Nat) (z2 : List Int) (w : World) (w0 : IsRow .u8 w a0 len0 cap0 z0) (w1 : (Lit.int .u32 a1).wf = true) (w2 : IsRow .u8 w a2 len2 cap2 z2) (hT : Tabs w) (r0 : cap0 ≤ 140737488355328) (r2 : cap2 ≤ 140737488355328) :
    Calls Tryd.prog 5 #[.slice a0 len0 cap0, .int .u32 a1, .slice a2 len2 cap2] w fun e w' => e = .returned (.bool true) ∧ Below w.heap.size w w' := by
  obtain ⟨_, _, hlc0, _⟩ := w0.bytes
  obtain ⟨bs, hl0, _, hp0⟩ := row_piece w0 (by omega)
  obtain ⟨_, _, hlc2, _⟩ := w2.bytes
  obtain ⟨ds, hl2, _, hp2⟩ := row_piece w2 (by omega)
  have hb1 := bounds_u32 w1
  obtain ⟨na, hna, _⟩ : ∃ n : Nat, a1 = (n : Int) ∧ n < 4294967296 := ⟨a1.toNat, by omega, by omega⟩
  obtain ⟨n, hn⟩ : ∃ n, na % 1000000000 = n := ⟨_, rfl⟩
  have HNB : Hid (n ≤ 999999999) := hideIt (by omega)
  obtain ⟨nI, hnI⟩ : ∃ z : Int, (n : Int) = z := ⟨_, rfl⟩
  have hmod : Int.tmod a1 1000000000 = nI := by rw [hna, rem_big, hn, hnI]
  have hw1 : IntKind.u32.wrap nI = nI := by rw [IntKind.wrap_u32]; omega
  have hw2 : IntKind.i64.wrap nI = nI := IntWalk.i64_in _ (by omega)
  have HNI := hideIt hnI
  have HPC := hideIt hp0
  have HLN := hideIt hl0
  have HPD := hideIt hp2
  have HLD := hideIt hl2
  have HT := hideIt hT
  clear w0 w1 w2 hT hlc0 hp0 hl0 r0 hlc2 hp2 hl2 r2 hb1 hna hn hnI
  go_enter Tryd.func5, Tryd.ntmps5
  go_wp2
  go_loopw [7, 8] (fun s i wr => ∃ (j : Nat) (V : List UInt8), s = .string (strOf V) ∧ i = .int .i64 (j : Int) ∧ j ≤ 64 ∧ V.length = j ∧ octL V = true ∧ Below w.heap.size w wr) (fun s i wr => 64 - (intOf i).toNat)
  case atStart => exact ⟨0, [], rfl, rfl, by omega, rfl, rfl, Below.refl _ _⟩
  case round =>
    obtain ⟨j, V, rfl, rfl, hj, hvl, hvo, hb⟩ := hrel
    have HBW := hideIt hb
    have HVO := hideIt hvo
    clear hb hvo
    by_cases hgo : j < len0 ∧ j < 64
    · obtain ⟨h1, h2⟩ := hgo
      have h1' : (j : Int) < (len0 : Int) := by omega
      have h2' : (j : Int) < 64 := by omega
      have hwj : IntKind.i64.wrap ((j : Int) + 1) = (j : Int) + 1 := IntWalk.i64_in _ (by omega)
      obtain ⟨b, off, rfl, hbl, hcells⟩ := HPC.out.bytes (by have := HLN.out; simp only; omega)
      have hcl := hcells j (by have := HLN.out; simp only; omega)
      obtain ⟨x, hx⟩ : ∃ x, (bs[j]'(by have := HLN.out; omega)).toNat = x := ⟨_, rfl⟩
      have hx256 : x < 256 := by rw [← hx]; exact UInt8.toNat_lt _
      simp only [hx] at hcl
      obtain ⟨q, hq⟩ : ∃ q, x % 16 = q := ⟨_, rfl⟩
      have hq7 : q < 16 := by omega
      obtain ⟨z, hz⟩ : ∃ z, sixS.getD q 0 = z := ⟨_, rfl⟩
      have hzo : octB z = true := by rw [← hz]; exact six_oct ⟨q, hq7⟩
      have HX := hideIt hx256
      have HXQ := hideIt hq
      have HQ := hideIt hq7
      have HZ : Hid ((sixS.drop q).take (q + 1 - q) = [z]) := hideIt (by rw [cut_one sixS q hq7, hz])
      have HJ : Hid (j < len0) := hideIt h1
      have HBL : Hid (b < wr.heap.size) := hideIt (Nat.lt_of_lt_of_le hbl HBW.out.size)
      have HCL : Hid (wr.cell? ⟨b, off + j, none⟩ = some (.int .u8 (x : Int))) := hideIt ((HBW.out.cell (p := ⟨b, off + j, none⟩) hbl).trans hcl)
      have HVN : Hid (octL (V ++ [z]) = true) := hideIt (oct_snoc HVO.out hzo)
      clear hcl hcells hbl hx hx256 hq hq7 hz hzo hmod hw1 hw2
      go_upto_region 5 with fail
      refine region_inv [Fact.str (V), Fact.is (.slice (some ⟨b, off, none⟩) len0 cap0), Fact.is (.int .i64 ((j : Nat) : Int)), Fact.is (.pointer (some ⟨b, off + j, none⟩)), Fact.is (.int .u8 (x : Int)), Fact.is (.int .u8 (q : Int)), Fact.is (.slice (some ⟨b, off, none⟩) len0 cap0), Fact.is (.int .i64 ((j : Nat) : Int)), Fact.is (.pointer (some ⟨b, off + j, none⟩)), Fact.is (.int .u8 (x : Int)), Fact.is (.int .u8 (q : Int)), Fact.is (.int .u8 ((q + 1 : Nat) : Int)), Fact.str ([z]), Fact.str (V ++ [z]), Fact.str (V ++ [z])] (by kernel_rfl) (by kernel_rfl) ⟨fun a w1 m => ?_, fun a w1 m => ?_, fun a w1 m => ?_, fun a w1 m => ?_, fun a w1 m => ?_, fun a w1 m => ?_, fun a w1 m => ?_, fun a w1 m => ?_, fun a w1 m => ?_, fun a w1 m => ?_, fun a w1 m => ?_, fun a w1 m => ?_, fun a w1 m => ?_, fun a w1 m => ?_, fun a w1 m => ?_, trivial⟩ ?_
      · exact ok_move (wanted_none rfl) (.tmp 7) rfl (m.old 7 rfl)
      · exact ok_move (wanted_none rfl) (.tmp 0) rfl (m.old 0 rfl)
      · exact ok_move (wanted_none rfl) (.tmp 8) rfl (m.old 8 rfl)
      · exact ok_index (wanted_none rfl) (.tmp 33) (.tmp 34) rfl b off len0 cap0 j (m.has 1 33 rfl rfl) (m.has 2 34 rfl rfl) HJ.out
      · exact ok_loadb (wanted_none rfl) (.tmp 35) rfl ⟨b, off + j, none⟩ _ (m.has 3 35 rfl rfl) ((m.grew.cell (p := ⟨b, off + j, none⟩) HBL.out).trans HCL.out)
      · exact ok_bin (wanted_none rfl) _ _ _ (.tmp 36) _ rfl _ _ _ (m.has 4 36 rfl rfl) (rfl) rfl (run_rem16q x q HX.out HXQ.out)
      · exact ok_move (wanted_none rfl) (.tmp 0) rfl (m.old 0 rfl)
      · exact ok_move (wanted_none rfl) (.tmp 8) rfl (m.old 8 rfl)
      · exact ok_index (wanted_none rfl) (.tmp 38) (.tmp 39) rfl b off len0 cap0 j (m.has 6 38 rfl rfl) (m.has 7 39 rfl rfl) HJ.out
      · exact ok_loadb (wanted_none rfl) (.tmp 40) rfl ⟨b, off + j, none⟩ _ (m.has 8 40 rfl rfl) ((m.grew.cell (p := ⟨b, off + j, none⟩) HBL.out).trans HCL.out)
      · exact ok_bin (wanted_none rfl) _ _ _ (.tmp 41) _ rfl _ _ _ (m.has 9 41 rfl rfl) (rfl) rfl (run_rem16q x q HX.out HXQ.out)
      · exact ok_bin (wanted_none rfl) _ _ _ (.tmp 42) _ rfl _ _ _ (m.has 10 42 rfl rfl) (rfl) rfl (run_add1 q (by have := HQ.out; omega))
      · exact ok_strMid (wanted_none rfl) _ (.tmp 37) (.tmp 43) rfl sixS .u8 .u8 q (q + 1) rfl (m.has 5 37 rfl rfl) (m.has 11 43 rfl rfl) (by omega) (by have := HQ.out; show _ ≤ 16; omega) _ HZ.out
      · exact ok_strcat (wanted_none rfl) (.tmp 32) (.tmp 44) _ rfl _ _ _ (m.has 0 32 rfl rfl) (m.has 12 44 rfl rfl) (by simp; omega) (rfl)
      · exact ok_assign (wanted_none rfl) (.tmp 45) rfl (m.has 13 45 rfl rfl)
      intro f w9 hg hf
      have e14 : f 14 = .string (strOf (V ++ [z])) := hf 14 (by decide)
      have B9 := hideIt (below_then HBW.out hg)
      clear hf
      simp only [List.take, List.drop, putAll, Act.put, List.setIfInBounds_toArray, List.set_cons_succ, List.set_cons_zero]
      rw [e14]
      clear e14
      go_wp2_with fail
      go_roundw
      case rel => exact ⟨j + 1, V ++ [z], rfl, by go_num, by omega, by simp; omega, HVN.out, B9.out⟩
      case measure => simp [intOf]; omega
    · have hgo2 : ((j : Int) < (len0 : Int) ∧ ¬ (j : Int) < 64) ∨ ¬ ((j : Int) < (len0 : Int)) := by omega
      obtain ⟨hsc, hrd⟩ := host_back (v := V) (n := n) HVO.out HNB.out
      have P9 := hideIt (PCell.new wr (hostN, V))
      have B9 := hideIt (below_then HBW.out (below_new wr (.cells #[.string (strOf (hostN, V).1), .string (strOf (hostN, V).2)] 30)))
      have k0 := P9.out.cell0
      have k1 := P9.out.cell1
      have CS := hideIt (cset_any (hostN, V) (n : Int) _ (by simp [hostN]) (by simp only; omega) (HT.out.2.keep B9.out))
      have hstl : (setT (hostN, V) n).length ≤ 9 + V.length + 63 := setT_len (p := (hostN, V)) (n := n) (by have := HNB.out; omega)
      have CR := hideIt (fun u (h : Below w.heap.size w u) => cread_any (setT (hostN, V) n) u (by omega) (HT.out.1.keep h) (HT.out.2.keep h))
      rw [hsc, HNI.out] at CS
      rw [hrd, HNI.out] at CR
      unfold readV at CR
      have EV : Hid (hostQ ++ strOf V = strOf (tellC (hostN, V))) := hideIt (host_cat V)
      have Q : Hid (hostQ = ⟨#[95, 95, 72, 111, 115, 116, 45, 105, 100, 61]⟩) := hideIt rfl
      rw [Q.out] at EV
      have HVL := hideIt hvl
      have hzv : (strOf V).size ≤ 64 := by rw [strOf_size]; omega
      unfold pairV at CS CR
      simp only [show strOf hostN = ⟨#[95, 95, 72, 111, 115, 116, 45, 105, 100]⟩ from rfl] at CS CR k0 k1 P9 B9
      generalize strOf (setT (hostN, V) n) = ss at *
      have HG : Hid (wr.heap.size < (wr.alloc (.cells #[.string ⟨#[95, 95, 72, 111, 115, 116, 45, 105, 100]⟩, .string (strOf V)] 30)).heap.size) := hideIt (by rw [alloc_size]; exact Nat.lt_succ_self _)
      clear hsc hrd hstl hgo hvl HPC HLN HNB HNI
      obtain ⟨sv, hsv⟩ : ∃ s, strOf V = s := ⟨_, rfl⟩
      have HSV := hideIt hsv
      simp only [hsv] at CS CR k0 k1 B9 hzv EV HG ⊢
      clear hsv P9
      rcases hgo2 with ⟨gq1, gq2⟩ | gq1
      all_goals
        go_wp2_with fail
        refine CS.out.mono ?_
        rintro e u1 ⟨rfl, hb⟩
        have B1 := hideIt (below_then B9.out hb)
        have c0 := (hb.cell (p := ⟨wr.heap.size, 0, none⟩) HG.out).trans k0
        have c1 := (hb.cell (p := ⟨wr.heap.size, 1, none⟩) HG.out).trans k1
        have HL1 := hideIt (Nat.lt_of_lt_of_le HG.out hb.size)
        clear hb k0 k1 CS B9 HG HBW
        generalize wr.heap.size = g9 at *
        go_wp2_with fail
        refine (CR.out _ B1.out).mono ?_
        rintro e u2 ⟨rfl, hb⟩
        have B2 := hideIt (below_then (below_then B1.out hb) (below_new u2 (.cells #[.string ⟨#[95, 95, 72, 111, 115, 116, 45, 105, 100]⟩, .string sv] 30)))
        replace c0 := ((below_then hb (below_new u2 (.cells #[.string ⟨#[95, 95, 72, 111, 115, 116, 45, 105, 100]⟩, .string sv] 30))).cell (p := ⟨g9, 0, none⟩) HL1.out).trans c0
        replace c1 := ((below_then hb (below_new u2 (.cells #[.string ⟨#[95, 95, 72, 111, 115, 116, 45, 105, 100]⟩, .string sv] 30))).cell (p := ⟨g9, 1, none⟩) HL1.out).trans c1
        have HL2 := hideIt (Nat.lt_of_lt_of_le HL1.out (below_then hb (below_new u2 (.cells #[.string ⟨#[95, 95, 72, 111, 115, 116, 45, 105, 100]⟩, .string sv] 30))).size)
        have d0 : (u2.alloc (.cells #[.string ⟨#[95, 95, 72, 111, 115, 116, 45, 105, 100]⟩, .string sv] 30)).cell? ⟨u2.heap.size, 0, none⟩ = some (.string ⟨#[95, 95, 72, 111, 115, 116, 45, 105, 100]⟩) := by rw [cell_of_row _ _ _ _ _ _ (heap_alloc_new u2 _)]; rfl
        have d1 : (u2.alloc (.cells #[.string ⟨#[95, 95, 72, 111, 115, 116, 45, 105, 100]⟩, .string sv] 30)).cell? ⟨u2.heap.size, 1, none⟩ = some (.string sv) := by rw [cell_of_row _ _ _ _ _ _ (heap_alloc_new u2 _)]; rfl
        have HL3 : Hid (u2.heap.size < (u2.alloc (.cells #[.string ⟨#[95, 95, 72, 111, 115, 116, 45, 105, 100]⟩, .string sv] 30)).heap.size) := hideIt (by rw [alloc_size]; exact Nat.lt_succ_self _)
        obtain ⟨X, hX⟩ : ∃ X, u2.alloc (.cells #[.string ⟨#[95, 95, 72, 111, 115, 116, 45, 105, 100]⟩, .string sv] 30) = X := ⟨_, rfl⟩
        have HX := hideIt hX
        rw [hX] at B2 c0 c1 HL2 d0 d1 HL3
        have C0 := hideIt c0
        have C1 := hideIt c1
        have D0 := hideIt d0
        have D1 := hideIt d1
        clear hb hX CR B1 HL1 c0 c1 d0 d1
        go_wp2_with fail
        rw [HX.out]
        generalize u2.heap.size = g13 at *
        go_loopw [16, 17] (fun s i wr => ∃ (j : Nat) (l : List PairL), s = .string (strOf (flatC l)) ∧ i = .int .i64 (j : Int) ∧ j ≤ 5 ∧ (flatC l).length = 6 * j ∧ (∀ q ∈ l, okC q = true) ∧ (∀ q ∈ l, q.1 ≠ hostN) ∧ Below X.heap.size X wr) (fun s i wr => 5 - (intOf i).toNat)
        case atStart => exact ⟨0, [], rfl, rfl, by omega, rfl, by simp, by simp, Below.refl _ _⟩
        case round =>
          obtain ⟨j, l, rfl, rfl, hj, hfl, hok, hnm, hb⟩ := hrel
          have HBW := hideIt hb
          have HOK := hideIt hok
          have HNM := hideIt hnm
          have HFL := hideIt hfl
          have hsz : (strOf (flatC l)).size ≤ 30 := by rw [strOf_size]; omega
          clear hb hok hnm hfl
          by_cases hgo : j < len2 ∧ j < 5
          · obtain ⟨h1, h2⟩ := hgo
            have h1' : (j : Int) < (len2 : Int) := by omega
            have h2' : (j : Int) < 5 := by omega
            have hwj : IntKind.i64.wrap ((j : Int) + 1) = (j : Int) + 1 := IntWalk.i64_in _ (by omega)
            obtain ⟨b, off, rfl, hbl, hcells⟩ := HPD.out.bytes (by have := HLD.out; simp only; omega)
            have hcl := hcells j (by have := HLD.out; simp only; omega)
            obtain ⟨cx, hcx⟩ : ∃ cx, (ds[j]'(by have := HLD.out; omega)) = cx := ⟨_, rfl⟩
            simp only [hcx] at hcl
            have hcl' : wr.cell? ⟨b, off + j, none⟩ = some (.int .u8 (cx.toNat : Int)) := (HBW.out.cell (p := ⟨b, off + j, none⟩) (Nat.lt_of_lt_of_le hbl B2.out.size)).trans ((B2.out.cell (p := ⟨b, off + j, none⟩) hbl).trans hcl)
            have hxl := cx.toNat_lt
            obtain ⟨p, hp⟩ : ∃ p, cx.toNat % 26 = p := ⟨_, rfl⟩
            have hp26 : p < 26 := by omega
            have hlc := letC_nat cx
            rw [hp] at hlc
            have hco := conv_one wr (((letC cx).toNat : Nat) : Int)
            rw [oneB_let] at hco
            have C := hideIt (flat_snoc2 l (letC cx))
            have N1 : Hid ((flatC (l ++ [([99, letC cx], [49])])).length = 6 * (j + 1)) := hideIt (by rw [flat_len2, HFL.out]; omega)
            have N2 : Hid (∀ q ∈ l ++ [([99, letC cx], [49])], okC q = true) := hideIt (by
              intro q hq
              rcases List.mem_append.1 hq with hq | hq
              · exact HOK.out q hq
              · rw [List.mem_singleton.1 hq]
                have := c_ok ⟨p, hp26⟩
                rwa [show UInt8.ofNat (97 + (⟨p, hp26⟩ : Fin 26).val) = letC cx by unfold letC; rw [hp]] at this)
            have N3 : Hid (∀ q ∈ l ++ [([99, letC cx], [49])], q.1 ≠ hostN) := hideIt (by
              intro q hq
              rcases List.mem_append.1 hq with hq | hq
              · exact HNM.out q hq
              · rw [List.mem_singleton.1 hq]; exact c_name _)
            have z1 : (strOf [letC cx]).size = 1 := rfl
            obtain ⟨y, hy⟩ : ∃ y : Int, (((letC cx).toNat : Nat) : Int) = y := ⟨_, rfl⟩
            have hmod2 : Int.tmod (cx.toNat : Int) 26 = (p : Int) := by rw [Int.tmod_eq_emod_of_nonneg (by omega)]; omega
            have hwq : IntKind.u8.wrap (p : Int) = (p : Int) := by rw [IntKind.wrap_u8']; omega
            have hwr : IntKind.u8.wrap (97 + (p : Int)) = y := by rw [IntKind.wrap_u8']; omega
            rw [hy] at hco
            have B3 := hideIt (below_one HBW.out (.cells #[.int .u8 y] 5))
            clear hcl hcells hbl hcx hlc hy hp hp26 hxl HBW
            obtain ⟨lt, hlt⟩ : ∃ c, letC cx = c := ⟨_, rfl⟩
            rw [hlt] at C N1 N2 N3 z1 hco
            clear hlt
            generalize (cx.toNat : Int) = x at *
            generalize (p : Int) = pI at *
            generalize strOf [lt] = s1 at *
            generalize strOf (flatC l) = sm at *
            go_wp2_with fail
            go_roundw
            case rel => exact ⟨j + 1, l ++ [([99, lt], [49])], congrArg Value.string C.out, by go_num, by omega, N1.out, N2.out, N3.out, B3.out⟩
            case measure => simp [intOf]; omega
          · have hgo3 : ((j : Int) < (len2 : Int) ∧ ¬ (j : Int) < 5) ∨ ¬ ((j : Int) < (len2 : Int)) := by omega
            have HF := hideIt (show (flatC l).length ≤ 30 by have := HFL.out; omega)
            have LL : (tellC (hostN, V)).length ≤ 74 := by rw [tell_len, HVL.out]; omega
            obtain ⟨sm, hsm⟩ : ∃ s, strOf (flatC l) = s := ⟨_, rfl⟩
            have EX1 : sm ++ (⟨#[95, 95, 72, 111, 115, 116, 45, 105, 100, 61]⟩ : ByteArray) ++ sv = strOf (flatC l ++ tellC (hostN, V)) := by
              have := EV.out
              rw [ByteArray.append_assoc, EV.out, ← hsm, strOf_append]
            have Z1 := hideIt (sess_at1 _ _ EX1 (by simp only [List.length_append]; have := HF.out; omega) _ (sess_there HOK.out HNM.out HVO.out))
            have Z2 := hideIt (sess_at2 _ _ _ _ EX1 EV.out (by simp only [List.length_append]; have := HF.out; omega) (by omega) _ (by
              have := sess_apart (l := l) (m := []) (v := V) (u := V) HOK.out HNM.out (by simp) (by simp) HVO.out HVO.out
              exact this))
            rw [hsm] at hsz ⊢
            have hsv : strOf V = sv := HSV.out
            simp only [hsv, show strOf [] = ⟨#[]⟩ from rfl] at Z1 Z2
            have c0 := (HBW.out.cell (p := ⟨g9, 0, none⟩) HL2.out).trans C0.out
            have c1 := (HBW.out.cell (p := ⟨g9, 1, none⟩) HL2.out).trans C1.out
            have d0 := (HBW.out.cell (p := ⟨g13, 0, none⟩) HL3.out).trans D0.out
            have d1 := (HBW.out.cell (p := ⟨g13, 1, none⟩) HL3.out).trans D1.out
            have l9 := Nat.lt_of_lt_of_le HL2.out HBW.out.size
            have l13 := Nat.lt_of_lt_of_le HL3.out HBW.out.size
            have B3 := hideIt (below_then B2.out HBW.out)
            clear hsm EX1 LL HF HFL HOK HNM hgo HPD HLD EV HVO HVL hsv HSV C0 C1 D0 D1 HL2 HL3 B2 HBW
            rcases hgo3 with ⟨gq3, gq4⟩ | gq3
            all_goals
              go_wp2_with fail
              refine (Z1.out _ _ rfl (HT.out.1.keep B3.out)).mono ?_
              rintro e u3 ⟨rfl, hb⟩
              have B4 := hideIt (below_then B3.out hb)
              replace c0 := (hb.cell (p := ⟨g9, 0, none⟩) l9).trans c0
              replace c1 := (hb.cell (p := ⟨g9, 1, none⟩) l9).trans c1
              replace d0 := (hb.cell (p := ⟨g13, 0, none⟩) l13).trans d0
              replace d1 := (hb.cell (p := ⟨g13, 1, none⟩) l13).trans d1
              replace l9 := Nat.lt_of_lt_of_le l9 hb.size
              replace l13 := Nat.lt_of_lt_of_le l13 hb.size
              clear hb Z1 B3
              go_wp2_with fail
              refine (Z2.out _ _ rfl (HT.out.1.keep B4.out)).mono ?_
              rintro e u4 ⟨rfl, hb⟩
              have B5 := hideIt (below_then B4.out hb)
              replace c0 := (hb.cell (p := ⟨g9, 0, none⟩) l9).trans c0
              replace c1 := (hb.cell (p := ⟨g9, 1, none⟩) l9).trans c1
              replace d0 := (hb.cell (p := ⟨g13, 0, none⟩) l13).trans d0
              replace d1 := (hb.cell (p := ⟨g13, 1, none⟩) l13).trans d1
              replace l9 := Nat.lt_of_lt_of_le l9 hb.size
              replace l13 := Nat.lt_of_lt_of_le l13 hb.size
              clear hb Z2 B4
              go_wp2_with fail
              refine (known11_any _ (HT.out.1.keep B5.out) (HT.out.2.keep B5.out)).mono ?_
              rintro e u5 ⟨rfl, hb⟩
              have B6 := hideIt (below_then B5.out hb)
              replace c0 := (hb.cell (p := ⟨g9, 0, none⟩) l9).trans c0
              replace c1 := (hb.cell (p := ⟨g9, 1, none⟩) l9).trans c1
              replace d0 := (hb.cell (p := ⟨g13, 0, none⟩) l13).trans d0
              replace d1 := (hb.cell (p := ⟨g13, 1, none⟩) l13).trans d1
              clear hb B5 l9 l13
              go_wp2_with fail
              go_ret
              exact ⟨rfl, B6.out⟩
end Go.Proofs.YtjfmlfakdijfjaaDoor
