/- Contract of the reference's Page. -/
import Derived.Test.YtolikoediafkkaaDoorRespPage
import Derived.Deep.Cut
import Derived.Handy
namespace Go.Proofs.YtolikoediafkkaaDoor
open Go.ChangeShapes Go.WideShapes Go.ChangeAt Go.RowKit
set_option linter.unusedVariables false
set_option linter.unusedSimpArgs false

set_option maxRecDepth 8000 in
set_option maxHeartbeats 4000000 in
theorem refpage_any (s : Int) (bd : List UInt8) (v : Value) (ps : List PairL) (w : World) (hp : PairsV v ps w) (hn : ps.length ≤ 1000) (hb : bd.length ≤ 1000000) :
    Calls Tryd.prog 21 #[.int .i64 s, .string (strOf bd), v] w fun e w' => ∃ fv A' c', e = .returned (respV (pageL s bd ps) fv A' c') ∧ RespNew w.heap.size fv A' c' (pageL s bd ps) w' ∧ Below w.heap.size w w' := by
  obtain ⟨FA, fc, rfl, f1, f2, f3, f4⟩ := hp.form
  have HP := hideIt hp
  have HB := hideIt hb
  have hbx := below_new w zeroR
  obtain ⟨X, hX⟩ : ∃ X, w.alloc zeroR = X := ⟨_, rfl⟩
  have hzx : RCell X w.heap.size (.int .i64 0) (.slice none 0 0) (.slice none 0 0) := by rw [← hX]; exact RCell.zero w
  have hxs : X.heap.size = w.heap.size + 1 := by rw [← hX]; exact alloc_size w _
  rw [hX] at hbx
  have BX := hideIt hbx
  have ZX := hideIt hzx
  have HX := hideIt hX
  unfold zeroR at HX
  have HF4 := hideIt f4
  clear hp hb hbx hzx hX f4
  obtain ⟨Y, hY⟩ : ∃ Y, X.alloc (.cells #[.string ⟨#[67, 111, 110, 116, 101, 110, 116, 45, 84, 121, 112, 101]⟩, .string ⟨#[116, 101, 120, 116, 47, 112, 108, 97, 105, 110, 59, 32, 99, 104, 97, 114, 115, 101, 116, 61, 117, 116, 102, 45, 56]⟩, .string ⟨#[67, 97, 99, 104, 101, 45, 67, 111, 110, 116, 114, 111, 108]⟩, .string ⟨#[110, 111, 45, 115, 116, 111, 114, 101]⟩] 41) = Y := ⟨_, rfl⟩
  have hoy : POwn (w.heap.size + 1) (.slice (some ⟨w.heap.size + 1, 0, none⟩) 2 2) [kindP, keptP] Y := by rw [← hY]; exact pages_own X _ hxs
  have hby : Below X.heap.size X Y := by rw [← hY]; exact below_new X _
  have OY := hideIt hoy
  have BY := hideIt (below_then BX.out hby)
  have ZY := hideIt (ZX.out.keep hby ZX.out.lt)
  have HY := hideIt hY
  have HXS := hideIt hxs
  clear hoy hby hY
  generalize hnf : ps.length = nf at *
  have HNF := hideIt hnf
  clear hnf
  go_enter Tryd.func21, Tryd.ntmps21
  go_upto_region 1 with fail
  rw [HX.out]
  obtain ⟨L, hL⟩ : ∃ L, [kindP, keptP] ++ ps = L := ⟨_, rfl⟩
  have HLL := hideIt hL
  clear hL
  have hl2 : ([kindP, keptP] : List PairL).length = 2 := rfl
  go_upto_region 2 with fail
  rw [HY.out]
  clear hxs
  go_wp2_with (at_builtin; refine wpList_appP rfl (.tmp 11) (.tmp 12) rfl (w.heap.size + 1) _ [kindP, keptP] rfl OY.out FA fc ps (by rw [HNF.out]; rfl) f3 (HF4.out.keep BY.out) (by rw [hl2, HNF.out]; omega) (by have := ZY.out.lt; omega) ?_)
  intro v4 w4 o4 g4
  have O4 : Hid (POwn (w.heap.size + 1) v4 L w4) := hideIt (by rw [← HLL.out]; exact o4)
  have B4 := hideIt (BY.out.grown g4 BY.out.size (fun k hk => by have := (OY.out.lt k hk).1; omega))
  have Z4 : Hid (RCell w4 w.heap.size (.int .i64 0) (.slice none 0 0) (.slice none 0 0)) := hideIt ((g4.block w.heap.size ZY.out.lt (fun e => by have := (OY.out.lt _ e.symm).1; omega)).trans ZY.out)
  clear o4 g4
  obtain ⟨GA, gc, rfl, _, _, _, _⟩ := O4.out.open
  obtain ⟨bc, w8, hcv, hpc, hbc⟩ := conv_str w4 bd HB.out
  have O8 := hideIt (O4.out.keep hbc)
  have B8 := hideIt (below_then B4.out hbc)
  have Z8 := Z4.out.keep hbc Z4.out.lt
  have HPC := hideIt hpc
  have HAP : Hid (∀ k, k < w4.heap.size → Apart (some ⟨w4.heap.size, 0, none⟩) bd k) := hideIt fun k hk _ ad he => by cases he; simp only; omega
  have q0 := Z8.fz 0
  have q1 := Z8.fz 1
  have q2 := Z8.fz 2
  have k0 := Z8.c0
  have k1 := Z8.c1
  have k2 := Z8.c2
  have HAPA : Hid (∀ k, k < w.heap.size → Apart (some ⟨w4.heap.size, 0, none⟩) bd k) := hideIt fun k hk => HAP.out k (by have := B4.out.size; omega)
  have HAPQ := hideIt (HAP.out w.heap.size Z4.out.lt)
  obtain ⟨pl, hpl⟩ : ∃ pl, L.length = pl := ⟨_, rfl⟩
  rw [hpl] at O8 ⊢
  have HPL := hideIt hpl
  have ZS := hideIt (Z8.set (.int .i64 s) (.slice GA pl gc) (.slice (some ⟨w4.heap.size, 0, none⟩) bd.length bc))
  have BS := hideIt (below_setR B8.out (Nat.le_refl _) (.int .i64 s) (.slice GA pl gc) (.slice (some ⟨w4.heap.size, 0, none⟩) bd.length bc))
  have GS := hideIt (grown_setR w8 w.heap.size (.int .i64 s) (.slice GA pl gc) (.slice (some ⟨w4.heap.size, 0, none⟩) bd.length bc))
  clear hpc hbc Z8 HAP hpl
  go_wp2_with fail
  (try simp only [Exit.inBlock, Exit.then])
  refine bodyPost_ret (results_R Tryd.results21 _ _ w.heap.size (.int .i64 s) (.slice GA pl gc) (.slice (some ⟨w4.heap.size, 0, none⟩) bd.length bc) rfl (by exact ZS.out)) rfl ?_
  refine ⟨.slice GA pl gc, some ⟨w4.heap.size, 0, none⟩, bc, ?_, ?_, BS.out⟩
  · show _ = Ending.returned (.agg #[.int .i64 s, .slice GA pl gc, .slice (some ⟨w4.heap.size, 0, none⟩) bd.length bc])
    rfl
  · have O9 := O8.out
    rw [← HLL.out] at O9
    exact ⟨(O9.block fun i hi => GS.out.block i (O9.lt i hi).2 (fun e => by cases e; have := (O9.lt _ hi).1; omega)).base (by omega), HPC.out.grown GS.out HAPQ.out, HAPA.out⟩
theorem go_refpage : goFn Tryd.prog 21 = true := by kernel_rfl
end Go.Proofs.YtolikoediafkkaaDoor
