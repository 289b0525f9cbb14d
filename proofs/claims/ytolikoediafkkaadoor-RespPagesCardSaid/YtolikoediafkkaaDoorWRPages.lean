/- The walk of RespPages. -/
import Derived.Test.YtolikoediafkkaaDoorRespKnown
import Derived.Test.YtolikoediafkkaaDoorRespLaid
import Derived.Test.YtolikoediafkkaaDoorRespLaw
import Derived.Test.YtolikoediafkkaaDoorRefPage
import Derived.Test.YtolikoediafkkaaDoorRefReason
import Derived.Test.YtolikoediafkkaaDoorPairSet
import Derived.Test.YtolikoediafkkaaDoorOpenPairs
import Derived.Deep.Cut
namespace Go.Proofs.YtolikoediafkkaaDoor
open Go.ChangeShapes Go.WideShapes Go.ChangeAt Go.RowKit
set_option linter.unusedVariables false
set_option linter.unusedSimpArgs false

set_option maxRecDepth 8000 in
set_option maxHeartbeats 4000000 in
theorem respPages_walk (a0 : Int) (a1 : ByteArray) (a2 : Option Addr) (len2 cap2 : Nat) (x2 : List PairL) (a3 : Int) (w : World) (w0 : (Lit.int .i64 a0).wf = true) (w1 : a1.size ≤ maxLen) (w2 : IsPairs w a2 len2 cap2 x2) (w3 : (Lit.int .u8 a3).wf = true) (hT : Tabs w) (r1 : a1.size ≤ 140737488355328) :
    Calls Tryd.prog 4 #[.int .i64 a0, .string a1, .slice a2 len2 cap2, .int .u8 a3] w fun e w' => e = .returned (.bool true) ∧ Below w.heap.size w w' := by
  obtain ⟨hm, hpow⟩ := hT
  obtain ⟨bd, rfl, hbd⟩ := str_is a1
  have hb3 := bounds_u8 w3
  obtain ⟨k, rfl⟩ : ∃ k : Nat, a3 = (k : Int) := ⟨a3.toNat, by omega⟩
  have HPV := hideIt w2.reads
  have HLN := hideIt w2.many
  have HEA := hideIt w2.each
  have HFT := hideIt w2.fits
  have HNL := hideIt w2.nil
  have HAT := hideIt w2.at_
  have HPW := hideIt hpow
  have HK := hideIt (fun w' (hb : Below w.heap.size w w') => known10_any w' (hpow.keep hb))
  clear w0 w1 w2 w3 hm hpow
  by_cases h300 : 300 < (strOf bd).size
  · have h1 : (300 : Int) < ((strOf bd).size : Int) := by omega
    generalize strOf bd = sb at *
    go_enter Tryd.func4, Tryd.ntmps4
    go_wp2_with fail
    refine (HK.out _ (Below.refl _ _)).mono ?_
    rintro e u1 ⟨rfl, hb⟩
    have B1 := hideIt hb
    clear hb
    go_wp2_with fail
    go_ret
    exact ⟨rfl, B1.out⟩
  have h1 : ¬ (300 : Int) < ((strOf bd).size : Int) := by omega
  have HBD : Hid (bd.length ≤ 300) := hideIt (by omega)
  clear h300 hbd r1
  obtain ⟨sb, hsb⟩ : ∃ sb, strOf bd = sb := ⟨_, rfl⟩
  rw [hsb] at h1 ⊢
  have HSB := hideIt hsb
  clear hsb
  by_cases h20 : 20 < len2
  · have h2 : (20 : Int) < (len2 : Int) := by omega
    go_enter Tryd.func4, Tryd.ntmps4
    go_wp2_with fail
    refine (HK.out _ (Below.refl _ _)).mono ?_
    rintro e u1 ⟨rfl, hb⟩
    have B1 := hideIt hb
    clear hb
    go_wp2_with fail
    go_ret
    exact ⟨rfl, B1.out⟩
  have h2 : ¬ (20 : Int) < (len2 : Int) := by omega
  have HN20 : Hid (len2 ≤ 20) := hideIt (by omega)
  clear h20
  go_enter Tryd.func4, Tryd.ntmps4
  go_wp2_with fail
  refine (HK.out _ (Below.refl _ _)).mono ?_
  rintro e u1 ⟨rfl, hb⟩
  have B1 := hideIt hb
  have A1 := hideIt (HAT.out.keep hb)
  clear hb h1 h2
  go_wp2_with (at_builtin; refine wpList_appP rfl (.tmp 28) (.tmp 29) rfl u1.heap.size _ [] rfl (POwn.nil _ _) a2 cap2 x2 (by rw [HLN.out]; rfl) HNL.out A1.out (by rw [HLN.out]; have := HN20.out; simp; omega) (Nat.le_refl _) ?_)
  intro v4 w4 o4 g4
  have O4 : Hid (POwn u1.heap.size v4 x2 w4) := hideIt o4
  have B4 := hideIt (B1.out.grown g4 B1.out.size (fun kk hk => by simp [Value.ownBlock] at hk))
  obtain ⟨VA, vc, rfl, _, _, _, _⟩ := o4.open
  obtain ⟨kk, hkk⟩ : ∃ kk, k % 12 = kk := ⟨_, rfl⟩
  have hki : (k : Int) % 12 = (kk : Int) := by omega
  have hk12 : kk < 12 := by omega
  have HST := hideIt (refstatuses_any w4)
  clear o4 g4 hkk A1
  go_wp2_with fail
  refine HST.out.mono ?_
  rintro e w5 ⟨rfl, rfl⟩
  obtain ⟨x, hx⟩ : ∃ x, reasonsT[kk]? = some x := ⟨_, List.getElem?_eq_getElem (by show kk < reasonsT.length; exact hk12)⟩
  have c1 := stats_cell w4 kk x hx
  have hbn := below_new w4 statsO
  have B5 := hideIt (below_then B4.out hbn)
  have O5 := hideIt (O4.out.keep hbn)
  obtain ⟨xs, hxs⟩ : ∃ xs, x.1 = xs := ⟨_, rfl⟩
  rw [hxs] at c1
  clear hbn hx hxs HST
  generalize hw5 : w4.alloc statsO = w5 at *
  clear hw5
  have HPG0 := hideIt (page_any a0 bd (.slice a2 len2 cap2) x2 w5 (HPV.out.keep B5.out) (by rw [HLN.out]; have := HN20.out; omega) HEA.out (by have := HBD.out; omega))
  rw [HSB.out] at HPG0
  have HPG : Hid (Calls Tryd.prog 20 #[.int .i64 a0, .string sb, .slice a2 len2 cap2] w5 fun e w' => ∃ fv A' c', e = .returned (.agg #[.int .i64 a0, fv, .slice A' bd.length c']) ∧ RespNew w5.heap.size fv A' c' (pageL a0 bd x2) w' ∧ Below w5.heap.size w5 w') := HPG0
  clear HPG0
  go_wp2_with fail
  refine HPG.out.mono ?_
  rintro e u6 ⟨fv, A', c', rfl, hnew, hb⟩
  obtain ⟨pn, hpn⟩ : ∃ pn, (pageL a0 bd x2).fs.length = pn := ⟨_, rfl⟩
  have HPN2 : Hid (pn = len2 + 2) := hideIt (by rw [← hpn]; unfold pageL; rw [List.length_append, HLN.out]; simp; omega)
  obtain ⟨gg, cap, e1, hgb, hgl, hcp, hcm⟩ := hnew.fields.form (by rw [hpn]; have := HPN2.out; omega)
  subst e1
  have hfo := hnew.fields
  rw [hpn] at hfo hcp ⊢
  have hbn := below_new u6 (.cells #[.int .i64 a0, .slice (some ⟨gg, 0, none⟩) pn cap, .slice A' bd.length c'] 25)
  have BP := hideIt (hb.trans (hbn.mono hb.size))
  have HW56 : Hid (w5.heap.size ≤ u6.heap.size) := hideIt hb.size
  have B6 := hideIt (below_then (below_then B5.out hb) hbn)
  have G6 := hideIt (RCell.new u6 (.int .i64 a0) (.slice (some ⟨gg, 0, none⟩) pn cap) (.slice A' bd.length c'))
  have hnp := hnew.parts
  rw [hpn] at hnp
  have N6 := hideIt (hnp.keep hbn)
  have F6 : Hid (POwn w5.heap.size (.slice (some ⟨gg, 0, none⟩) pn cap) (pageL a0 bd x2).fs _) := hideIt (hfo.keep hbn)
  have O6 := hideIt ((O5.out.keep hb).keep hbn)
  have HPN := hideIt hpn
  have HP2 : Hid (pn ≤ 22) := hideIt (by have := HN20.out; have := HPN2.out; omega)
  have HGG : Hid (w5.heap.size ≤ gg ∧ gg < u6.heap.size) := hideIt ⟨hgb, hgl⟩
  have HVL : Hid (x2.length = len2) := hideIt HLN.out
  clear hb hbn hnew hfo hnp hpn hcm c1 HPG
  go_upto_region 8 with fail
  generalize u6.alloc (.cells #[.int .i64 a0, .slice (some ⟨gg, 0, none⟩) pn cap, .slice A' bd.length c'] 25) = Y at *
  generalize hg12 : u6.heap.size = g12 at *
  have HGC12 : Hid (gg < g12) := hideIt (by have := HGG.out.2; omega)
  clear hg12
  have HRV : Hid (PairsV (.slice VA x2.length vc) x2 Y) := hideIt O6.out.reads
  have HL20 : Hid (x2.length ≤ 20) := hideIt (by rw [HLN.out]; exact HN20.out)
  have HQ : Hid (∀ (s : Int) (v : Value) (ps : List PairL) (w1 : World), PairsV v ps w1 → ps.length ≤ 20 → Calls Tryd.prog 21 #[.int .i64 s, .string sb, v] w1 fun e w' => ∃ fv A' c', e = .returned (respV (pageL s bd ps) fv A' c') ∧ RespNew w1.heap.size fv A' c' (pageL s bd ps) w' ∧ Below w1.heap.size w1 w') := hideIt fun s v ps w1 h hl => by
    have := refpage_any s bd v ps w1 h (by omega) (by have := HBD.out; omega)
    rw [HSB.out] at this
    exact this
  have HQ2 : Hid (∀ (s : Int) (w1 : World), Calls Tryd.prog 20 #[.int .i64 s, .string sb, .slice none 0 0] w1 fun e w' => ∃ fv A' c', e = .returned (respV (pageL s bd []) fv A' c') ∧ RespNew w1.heap.size fv A' c' (pageL s bd []) w' ∧ Below w1.heap.size w1 w') := hideIt fun s w1 => by
    have := page_any s bd (.slice none 0 0) [] w1 ⟨none, 0, rfl, by simp, by omega, fun _ => rfl, PairsAt.nil _ _⟩ (by simp) (fun p hp => by cases hp) (by have := HBD.out; omega)
    rw [HSB.out] at this
    exact this
  have HNN : Hid (∀ w1, PairsV (.slice none 0 0) [] w1) := hideIt fun w1 => ⟨none, 0, rfl, by simp, by omega, fun _ => rfl, PairsAt.nil _ _⟩
  have HPLN : Hid (∀ s ps, ps.length ≤ 20 → (pageL s bd ps).fs.length ≤ 140737488355328) := hideIt fun s ps h => by unfold pageL; rw [List.length_append]; simp; omega
  generalize hvv : (.slice VA x2.length vc : Value) = vv at *
  have HVV := hideIt hvv
  clear hvv
  refine region_inv [Fact.rsv (pageL a0 bd x2), Fact.is (.int .i64 a0), Fact.is (.string sb), Fact.is (vv), Fact.rsv (pageL a0 bd x2), Fact.is (.bool true), Fact.is (.bool true), Fact.is (.int .i64 xs), Fact.is (.string sb), Fact.rsv (pageL xs bd []), Fact.is (.int .i64 xs), Fact.is (.string sb), Fact.rsv (pageL xs bd []), Fact.is (.bool true), Fact.is (.bool true), Fact.is (.bool true)] (by kernel_rfl) (by kernel_rfl) ⟨fun a w1 m => ?_, fun a w1 m => ?_, fun a w1 m => ?_, fun a w1 m => ?_, fun a w1 m => ?_, fun a w1 m => ?_, fun a w1 m => ?_, fun a w1 m => ?_, fun a w1 m => ?_, fun a w1 m => ?_, fun a w1 m => ?_, fun a w1 m => ?_, fun a w1 m => ?_, fun a w1 m => ?_, fun a w1 m => ?_, fun a w1 m => ?_, trivial⟩ ?_
  · exact ok_loadR (wanted_none rfl) (.tmp 12) rfl g12 (pageL a0 bd x2) _ _ _ (m.old 12 rfl) (G6.out.keep m.grew G6.out.lt) (N6.out.keep m.grew)
  · exact ok_move (wanted_none rfl) (.tmp 0) rfl (m.old 0 rfl)
  · exact ok_move (wanted_none rfl) (.tmp 1) rfl (m.old 1 rfl)
  · exact ok_move (wanted_none rfl) (.tmp 9) rfl (m.old 9 rfl)
  · exact ok_fn (wanted_none rfl) _ _ _ rfl _ (map3 (m.has 1 45 rfl rfl) (m.has 2 46 rfl rfl) (m.has 3 47 rfl rfl)) go_refpage (HQ.out a0 vv x2 w1 (HRV.out.keep m.grew) HL20.out) (fun e w' ⟨fv, A', c', h1, h2, h3⟩ => ⟨_, h1, ⟨fv, A', c', rfl, h2.parts⟩, h3⟩)
  · exact ok_refrsame (wanted_none rfl) (.tmp 44) (.tmp 48) _ rfl (pageL a0 bd x2) (pageL a0 bd x2) (m.has 0 44 rfl rfl) (m.has 4 48 rfl rfl) (HPLN.out _ _ HL20.out) true (sameR_refl _)
  · exact ok_move (wanted_none rfl) (.tmp 49) rfl (m.has 5 49 rfl rfl)
  · exact ok_move (wanted_some 6 true rfl 50 rfl true (m.has 6 50 rfl rfl)) (.tmp 11) rfl (m.old 11 rfl)
  · exact ok_move (wanted_some 6 true rfl 50 rfl true (m.has 6 50 rfl rfl)) (.tmp 1) rfl (m.old 1 rfl)
  · exact ok_fn (wanted_some 6 true rfl 50 rfl true (m.has 6 50 rfl rfl)) _ _ _ rfl _ (map3 (m.has 7 51 rfl rfl) (m.has 8 52 rfl rfl) (rfl)) go_rpage (HQ2.out xs w1) (fun e w' ⟨fv, A', c', h1, h2, h3⟩ => ⟨_, h1, ⟨fv, A', c', rfl, h2.parts⟩, h3⟩)
  · exact ok_move (wanted_some 6 true rfl 50 rfl true (m.has 6 50 rfl rfl)) (.tmp 11) rfl (m.old 11 rfl)
  · exact ok_move (wanted_some 6 true rfl 50 rfl true (m.has 6 50 rfl rfl)) (.tmp 1) rfl (m.old 1 rfl)
  · exact ok_fn (wanted_some 6 true rfl 50 rfl true (m.has 6 50 rfl rfl)) _ _ _ rfl _ (map3 (m.has 10 54 rfl rfl) (m.has 11 55 rfl rfl) (rfl)) go_refpage (HQ.out xs _ [] w1 (HNN.out w1) (by decide)) (fun e w' ⟨fv, A', c', h1, h2, h3⟩ => ⟨_, h1, ⟨fv, A', c', rfl, h2.parts⟩, h3⟩)
  · exact ok_refrsame (wanted_some 6 true rfl 50 rfl true (m.has 6 50 rfl rfl)) (.tmp 53) (.tmp 56) _ rfl (pageL xs bd []) (pageL xs bd []) (m.has 9 53 rfl rfl) (m.has 12 56 rfl rfl) (HPLN.out _ _ (by decide)) true (sameR_refl _)
  · exact ok_pickT (wanted_none rfl) (.tmp 50) _ _ rfl (m.has 6 50 rfl rfl) (m.has 13 57 rfl rfl)
  · exact ok_assign (wanted_none rfl) (.tmp 58) rfl (m.has 14 58 rfl rfl)
  intro f w9 hg hf
  have e15 : f 15 = .bool true := hf 15 (by decide)
  have B9 := hideIt (below_then B6.out hg)
  clear hf
  simp only [List.take, List.drop, putAll, Act.put, List.setIfInBounds_toArray, List.set_cons_succ, List.set_cons_zero]
  rw [e15]
  clear e15
  have BPG : Hid (Below w5.heap.size w9 w9) := hideIt (Below.refl _ _)
  have G9 := hideIt (G6.out.keep hg G6.out.lt)
  have F9 := hideIt (F6.out.keep hg)
  have O9 := hideIt (O6.out.keep hg)
  have HW9 : Hid (w5.heap.size ≤ w9.heap.size) := hideIt (by have := hg.size; have := HW56.out; have := G6.out.lt; omega)
  have HWW : Hid (w.heap.size ≤ w5.heap.size) := hideIt B5.out.size
  have OLT : Hid (∀ g, vv.ownBlock = some g → g < w5.heap.size) := hideIt fun g h => (O5.out.lt g h).2
  clear hg HQ HQ2
  simp only [Nat.zero_add, Nat.reduceAdd]
  go_wp2_with fail
  go_loopw [14] (fun iv wr => ∃ j : Nat, j ≤ pn ∧ iv = .int .i64 (j : Int) ∧ (∃ fs' : List PairL, fs'.length = pn ∧ POwn w5.heap.size (.slice (some ⟨gg, 0, none⟩) pn cap) fs' wr) ∧ RCell wr g12 (.int .i64 a0) (.slice (some ⟨gg, 0, none⟩) pn cap) (.slice A' bd.length c') ∧ Below w5.heap.size w9 wr) (fun iv wr => pn - (intOf iv).toNat)
  case atStart => exact ⟨0, by omega, rfl, ⟨_, HPN.out, F9.out⟩, G9.out, Below.refl _ _⟩
  case round =>
    obtain ⟨j, hj, rfl, ⟨fs', hfl, hfo⟩, hgc, hbr⟩ := hrel
    have HG := hideIt hgc
    have BR := hideIt hbr
    have q1 := hgc.c1
    have hwj : IntKind.i64.wrap ((j : Int) + 1) = (j : Int) + 1 := IntWalk.i64_in _ (by have := HP2.out; omega)
    by_cases hlt : j < pn
    · have hji : (j : Int) < (pn : Int) := by omega
      obtain ⟨x, hx⟩ : ∃ x, fs'[j]? = some x := ⟨_, List.getElem?_eq_getElem (by omega)⟩
      have hfo2 := hfo
      rw [← hfl] at hfo2
      obtain ⟨s1, s2, s3, s4⟩ := hfo2.setVal j x hx [63]
      rw [hfl] at s1
      have hidx : 2 * j + 1 = j * 2 + 1 := by omega
      have e63 : strOf [63] = (⟨#[63]⟩ : ByteArray) := rfl
      rw [hidx, e63] at s1 s2
      rw [hidx] at s3 s4
      have hln : (fs'.set j (x.1, [63])).length = pn := by rw [List.length_set]; exact hfl
      have S1 := hideIt s1
      have HLS := hideIt hln
      have GS : Hid (RCell (wr.setCell ⟨gg, j * 2 + 1, none⟩ (.string ⟨#[63]⟩)) g12 (.int .i64 a0) (.slice (some ⟨gg, 0, none⟩) pn cap) (.slice A' bd.length c')) := hideIt ((s2.block g12 HG.out.lt (fun e => by cases e; have := HGC12.out; omega)).trans HG.out)
      have BS : Hid (Below w5.heap.size w9 (wr.setCell ⟨gg, j * 2 + 1, none⟩ (.string ⟨#[63]⟩))) := hideIt (BR.out.setCell (by exact HGG.out.1) _)
      clear hgc hbr hfo hfo2 hfl hx s1 s2 hidx e63 hln
      go_wp2_with fail
      go_roundw
      case rel => exact ⟨j + 1, by omega, by go_num, ⟨_, HLS.out, S1.out⟩, GS.out, BS.out⟩
      case measure => simp [intOf]; omega
    · obtain rfl : j = pn := by omega
      have hji : ¬ (j : Int) < (j : Int) := by omega
      have BW := hideIt (B9.out.trans (BR.out.mono HWW.out))
      have PV := hideIt (HPV.out.keep BW.out)
      have OV : Hid (PairsV vv x2 wr) := hideIt (by
        have := O9.out.block fun g hg => BR.out.block g (OLT.out g hg)
        exact this.reads)
      have HSM0 := hideIt (refsame_any (.slice a2 len2 cap2) vv x2 x2 wr PV.out OV.out (by have := HL20.out; omega))
      rw [decide_eq_true rfl] at HSM0
      clear hgc hbr hfo hfl
      go_wp2_with fail
      refine HSM0.out.mono ?_
      rintro e u8 ⟨rfl, hb⟩
      have B8 := hideIt (below_then BW.out hb)
      clear hb
      go_wp2_with fail
      go_ret
      exact ⟨rfl, B8.out⟩
end Go.Proofs.YtolikoediafkkaaDoor
