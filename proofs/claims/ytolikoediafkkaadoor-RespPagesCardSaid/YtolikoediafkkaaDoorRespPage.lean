/- Contract of resp.Page. -/
import Derived.Test.YtolikoediafkkaaDoorRespMem
import Derived.Test.YtolikoediafkkaaDoorClone
import Derived.Test.YtolikoediafkkaaDoorStrBytes
import Derived.Deep.Cut
import Derived.Handy
namespace Go.Proofs.YtolikoediafkkaaDoor
open Go.ChangeShapes Go.WideShapes Go.ChangeAt Go.RowKit
set_option linter.unusedVariables false
set_option linter.unusedSimpArgs false

def kindP : PairL := ([67, 111, 110, 116, 101, 110, 116, 45, 84, 121, 112, 101], [116, 101, 120, 116, 47, 112, 108, 97, 105, 110, 59, 32, 99, 104, 97, 114, 115, 101, 116, 61, 117, 116, 102, 45, 56])
def keptP : PairL := ([67, 97, 99, 104, 101, 45, 67, 111, 110, 116, 114, 111, 108], [110, 111, 45, 115, 116, 111, 114, 101])
def pageL (s : Int) (bd : List UInt8) (ps : List PairL) : RespL := ⟨s, [kindP, keptP] ++ ps, bd⟩
theorem pages_own (X : World) (g : Nat) (hg : X.heap.size = g) : POwn g (.slice (some ⟨g, 0, none⟩) 2 2) [kindP, keptP] (X.alloc (.cells #[.string (strOf kindP.1), .string (strOf kindP.2), .string (strOf keptP.1), .string (strOf keptP.2)] 41)) := by
  subst hg
  refine ⟨rfl, Or.inr ⟨X.heap.size, 2, _, rfl, Nat.le_refl _, heap_alloc_new X _, by decide, by decide, rfl, rfl⟩⟩
theorem go_clonep : goFn Tryd.prog 33 = true := by kernel_rfl
set_option maxRecDepth 8000 in
set_option maxHeartbeats 4000000 in
theorem page_any (s : Int) (bd : List UInt8) (v : Value) (ps : List PairL) (w : World) (hp : PairsV v ps w) (hn : ps.length ≤ 1000) (hs : ∀ p ∈ ps, p.1.length ≤ 140737488355328 ∧ p.2.length ≤ 140737488355328) (hb : bd.length ≤ 1000000) :
    Calls Tryd.prog 20 #[.int .i64 s, .string (strOf bd), v] w fun e w' => ∃ fv A' c', e = .returned (respV (pageL s bd ps) fv A' c') ∧ RespNew w.heap.size fv A' c' (pageL s bd ps) w' ∧ Below w.heap.size w w' := by
  obtain ⟨FA, fc, rfl, f1, f2, f3, f4⟩ := hp.form
  have HP := hideIt hp
  have HS := hideIt hs
  have HB := hideIt hb
  have hbx := below_new w zeroR
  obtain ⟨X, hX⟩ : ∃ X, w.alloc zeroR = X := ⟨_, rfl⟩
  have hzx : RCell X w.heap.size (.int .i64 0) (.slice none 0 0) (.slice none 0 0) := by rw [← hX]; exact RCell.zero w
  have hxs : X.heap.size = w.heap.size + 1 := by rw [← hX]; exact alloc_size w _
  rw [hX] at hbx
  have BX := hideIt hbx
  have ZX := hideIt hzx
  have HX := hideIt hX
  unfold zeroR at HX
  have HF4 := hideIt f4
  clear hp hs hb hbx hzx hX f4
  obtain ⟨Y, hY⟩ : ∃ Y, X.alloc (.cells #[.string ⟨#[67, 111, 110, 116, 101, 110, 116, 45, 84, 121, 112, 101]⟩, .string ⟨#[116, 101, 120, 116, 47, 112, 108, 97, 105, 110, 59, 32, 99, 104, 97, 114, 115, 101, 116, 61, 117, 116, 102, 45, 56]⟩, .string ⟨#[67, 97, 99, 104, 101, 45, 67, 111, 110, 116, 114, 111, 108]⟩, .string ⟨#[110, 111, 45, 115, 116, 111, 114, 101]⟩] 41) = Y := ⟨_, rfl⟩
  have hoy : POwn (w.heap.size + 1) (.slice (some ⟨w.heap.size + 1, 0, none⟩) 2 2) [kindP, keptP] Y := by rw [← hY]; exact pages_own X _ hxs
  have hby : Below X.heap.size X Y := by rw [← hY]; exact below_new X _
  have OY := hideIt hoy
  have BY := hideIt (below_then BX.out hby)
  have ZY := hideIt (ZX.out.keep hby ZX.out.lt)
  have HY := hideIt hY
  have HXS := hideIt hxs
  clear hoy hby hY
  generalize hnf : ps.length = nf at *
  have HNF := hideIt hnf
  clear hnf
  go_enter Tryd.func20, Tryd.ntmps20
  go_upto_region 1 with fail
  rw [HX.out]
  go_upto_region 2 with fail
  rw [HY.out]
  clear hxs
  go_wp2_with fail
  go_loopw [7, 15] (fun v i wr => ∃ j : Nat, j ≤ nf ∧ i = .int .i64 (j : Int) ∧ POwn (w.heap.size + 1) v ([kindP, keptP] ++ ps.take j) wr ∧ Below w.heap.size w wr ∧ RCell wr w.heap.size (.int .i64 0) (.slice none 0 0) (.slice none 0 0)) (fun v i wr => nf - (intOf i).toNat)
  case atStart => exact ⟨0, by omega, rfl, by simpa using OY.out, BY.out, ZY.out⟩
  case round =>
    obtain ⟨j, hj, rfl, ho, hb, hz⟩ := hrel
    have HO := hideIt ho
    have HB1 := hideIt hb
    have HZ := hideIt hz
    have HWS : Hid (w.heap.size + 1 ≤ wr.heap.size) := hideIt hz.lt
    clear ho hb hz
    have hwj : IntKind.i64.wrap ((j : Int) + 1) = (j : Int) + 1 := IntWalk.i64_in _ (by omega)
    have hdl : ([kindP, keptP] ++ ps.take j).length ≤ 1002 := by rw [List.length_append, List.length_take]; simp; omega
    by_cases hlt : j < nf
    · have hji : (j : Int) < (nf : Int) := by omega
      obtain ⟨x, hx⟩ : ∃ x, ps[j]? = some x := ⟨_, List.getElem?_eq_getElem (by have := HNF.out; omega)⟩
      obtain ⟨b, off, rfl, hlt2, hc⟩ := (HF4.out.keep HB1.out) (by have := HNF.out; omega)
      obtain ⟨c1, c2⟩ := hc j x hx
      rw [show off + 2 * j = off + j * 2 by omega] at c1 c2
      have hss := HS.out x (List.mem_of_getElem? hx)
      have DS : Hid ([kindP, keptP] ++ ps.take (j + 1) = ([kindP, keptP] ++ ps.take j) ++ [x]) := hideIt (by
        obtain ⟨h1, h2⟩ := List.getElem?_eq_some_iff.1 hx
        rw [List.take_succ_eq_append_getElem h1, h2, List.append_assoc])
      obtain ⟨xn, xv⟩ := x
      simp only at hss c1 c2
      have Z1 : Hid ((strOf xn).size ≤ 140737488355328) := hideIt (by rw [strOf_size]; exact hss.1)
      have Z2 : Hid ((strOf xv).size ≤ 140737488355328) := hideIt (by rw [strOf_size]; exact hss.2)
      have hbn := below_new wr (.cells #[.string (strOf xn), .string (strOf xv)] 41)
      have P1 := PCell.new wr (xn, xv)
      have B1 := hideIt (below_then HB1.out hbn)
      have O1 := hideIt (HO.out.keep hbn)
      have ZZ := hideIt (HZ.out.keep hbn HZ.out.lt)
      have HC1 := hideIt P1.cell0
      have HC2 := hideIt P1.cell1
      have HGL := hideIt P1.lt
      clear hc hx hbn hss
      generalize [kindP, keptP] ++ ps.take j = done at *
      go_upto_region 5 with fail
      generalize wr.alloc (.cells #[.string (strOf xn), .string (strOf xv)] 41) = X1 at *
      generalize wr.heap.size = g9 at *
      clear P1
      refine region_tail 9 [Fact.is (u7), Fact.is (.pointer (some ⟨g9, 0, none⟩)), Fact.str (xn), Fact.str (xn), Fact.is (.pointer (some ⟨g9, 0 + 1, none⟩)), Fact.str (xv), Fact.str (xv), Fact.is (.agg #[.string (strOf xn), .string (strOf xv)]), Fact.prs [(xn, xv)]] (by kernel_rfl) (by kernel_rfl) (by kernel_rfl) ⟨fun a w1 m => ?_, fun a w1 m => ?_, fun a w1 m => ?_, fun a w1 m => ?_, fun a w1 m => ?_, fun a w1 m => ?_, fun a w1 m => ?_, fun a w1 m => ?_, fun a w1 m => ?_, trivial⟩ ?_
      · exact ok_move (wanted_none rfl) (.tmp 7) rfl (m.old 7 rfl)
      · exact ok_field0 (wanted_none rfl) (.tmp 9) rfl g9 0 (m.old 9 rfl)
      · exact ok_loadS (wanted_none rfl) (.tmp 20) rfl ⟨g9, 0, none⟩ _ (m.has 1 20 rfl rfl) ((m.grew.cell (p := ⟨g9, 0, none⟩) HGL.out).trans HC1.out)
      · exact ok_fn (wanted_none rfl) _ _ _ rfl _ (map1 (m.has 2 21 rfl rfl)) go_clonep (clone_any (strOf xn) w1 Z1.out) (fun e w' ⟨h1, h2⟩ => ⟨_, h1, rfl, h2⟩)
      · exact ok_field1 (wanted_none rfl) (.tmp 9) rfl g9 0 (m.old 9 rfl)
      · exact ok_loadS (wanted_none rfl) (.tmp 23) rfl ⟨g9, 0 + 1, none⟩ _ (m.has 4 23 rfl rfl) ((m.grew.cell (p := ⟨g9, 0 + 1, none⟩) HGL.out).trans HC2.out)
      · exact ok_fn (wanted_none rfl) _ _ _ rfl _ (map1 (m.has 5 24 rfl rfl)) go_clonep (clone_any (strOf xv) w1 Z2.out) (fun e w' ⟨h1, h2⟩ => ⟨_, h1, rfl, h2⟩)
      · exact ok_structP (wanted_none rfl) (.tmp 22) (.tmp 25) rfl (strOf xn) (strOf xv) (m.has 3 22 rfl rfl) (m.has 6 25 rfl rfl)
      · exact ok_rowPair (wanted_none rfl) (.tmp 26) rfl (xn, xv) (m.has 7 26 rfl rfl)
      intro f w6 hg6 hf
      have f0 : f 0 = u7 := hf 0 (by decide)
      obtain ⟨A7, c7, h7, l7, m7, n7, p7⟩ := (show PairsV (f 8) [(xn, xv)] w6 from hf 8 (by decide)).form
      have o6 := O1.out.keep hg6
      have b6 := below_then B1.out hg6
      have z6 := ZZ.out.keep hg6 ZZ.out.lt
      simp only [List.take, List.drop, putAll, Act.put, List.setIfInBounds_toArray, List.set_cons_succ, List.set_cons_zero]
      refine wpList_appP rfl (.tmp 19) (.tmp 27) rfl (w.heap.size + 1) u7 done f0 o6 A7 c7 [(xn, xv)] h7 n7 p7 (by simp; omega) (by have := z6.lt; omega) ?_
      intro v7 w7 o7 g7
      have O7 : Hid (POwn (w.heap.size + 1) v7 ([kindP, keptP] ++ ps.take (j + 1)) w7) := hideIt (by rw [DS.out]; exact o7)
      have B7 : Hid (Below w.heap.size w w7) := hideIt (b6.grown g7 b6.size (fun k hk => by have := (o6.lt k hk).1; omega))
      have Z7 : Hid (RCell w7 w.heap.size (.int .i64 0) (.slice none 0 0) (.slice none 0 0)) := hideIt ((g7.block w.heap.size z6.lt (fun e => by have := (o6.lt _ e.symm).1; omega)).trans z6)
      clear o7 g7 b6 o6 p7 hf hg6 z6
      go_wp2_with fail
      go_roundw
      case rel => exact ⟨j + 1, by omega, by go_num, O7.out, B7.out, Z7.out⟩
      case measure => simp [intOf]; omega
    · obtain rfl : j = nf := by omega
      have hji : ¬ (j : Int) < (j : Int) := by omega
      have E : Hid ([kindP, keptP] ++ ps.take j = [kindP, keptP] ++ ps) := hideIt (by rw [List.take_of_length_le (by have := HNF.out; omega)])
      obtain ⟨bc, w8, hcv, hpc, hbc⟩ := conv_str wr bd HB.out
      obtain ⟨GA, gc, rfl, _, _, _, _⟩ := HO.out.open
      have O8 := hideIt (HO.out.keep hbc)
      have B8 := hideIt (below_then HB1.out hbc)
      have Z8 := HZ.out.keep hbc HZ.out.lt
      have HPC := hideIt hpc
      have HAP : Hid (∀ k, k < wr.heap.size → Apart (some ⟨wr.heap.size, 0, none⟩) bd k) := hideIt fun k hk _ ad he => by cases he; simp only; omega
      have q0 := Z8.fz 0
      have q1 := Z8.fz 1
      have q2 := Z8.fz 2
      have k0 := Z8.c0
      have k1 := Z8.c1
      have k2 := Z8.c2
      have HAPA : Hid (∀ k, k < w.heap.size → Apart (some ⟨wr.heap.size, 0, none⟩) bd k) := hideIt fun k hk => HAP.out k (by have := HWS.out; omega)
      have HAPQ := hideIt (HAP.out w.heap.size (by have := HWS.out; omega))
      obtain ⟨pl, hpl⟩ : ∃ pl, ([kindP, keptP] ++ ps.take j).length = pl := ⟨_, rfl⟩
      rw [hpl] at O8 ⊢
      have HPL := hideIt hpl
      have ZS := hideIt (Z8.set (.int .i64 s) (.slice GA pl gc) (.slice (some ⟨wr.heap.size, 0, none⟩) bd.length bc))
      have BS := hideIt (below_setR B8.out (Nat.le_refl _) (.int .i64 s) (.slice GA pl gc) (.slice (some ⟨wr.heap.size, 0, none⟩) bd.length bc))
      have GS := hideIt (grown_setR w8 w.heap.size (.int .i64 s) (.slice GA pl gc) (.slice (some ⟨wr.heap.size, 0, none⟩) bd.length bc))
      clear hpc hbc Z8 HAP hpl
      go_wp2_with fail
      (try simp only [Exit.inBlock, Exit.then])
      refine bodyPost_ret (results_R Tryd.results20 _ _ w.heap.size (.int .i64 s) (.slice GA pl gc) (.slice (some ⟨wr.heap.size, 0, none⟩) bd.length bc) rfl (by exact ZS.out)) rfl ?_
      refine ⟨.slice GA pl gc, some ⟨wr.heap.size, 0, none⟩, bc, rfl, ?_, BS.out⟩
      have O9 := O8.out
      rw [E.out] at O9
      exact ⟨(O9.block fun i hi => GS.out.block i (O9.lt i hi).2 (fun e => by cases e; have := (O9.lt _ hi).1; omega)).base (by omega), HPC.out.grown GS.out HAPQ.out, HAPA.out⟩
theorem go_rpage : goFn Tryd.prog 20 = true := by kernel_rfl
end Go.Proofs.YtolikoediafkkaaDoor
