/- wicketmanlaw09.heavy: how much there is in a request, of no great size. -/
import Derived.Test.YtbojigimldfghaaDoorReqMem
import Derived.Test.YtbojigimldfghaaDoorPairCell
import Derived.Test.YtbojigimldfghaaDoorHttpText
import Derived.Test.YtbojigimldfghaaDoorCmp
import Derived.Deep.Cut
import Derived.Handy
namespace Go.Proofs.YtbojigimldfghaaDoor
open Go.ChangeShapes Go.WideShapes Go.ChangeAt Go.RowKit
set_option linter.unusedVariables false
set_option linter.unusedSimpArgs false

def sizeQ (r : ReqL) : Nat := r.m.length + r.p.length + r.body.length + bulkQ r.fs
set_option maxRecDepth 8000 in
set_option maxHeartbeats 4000000 in
theorem heavy9_any (r : ReqL) (fv : Value) (A : Option Addr) (c : Nat) (w : World) (hp : ReqParts fv A c r w) (hB : sizeQ r ≤ 1048576) :
    Calls Tryd.prog 16 #[reqV r fv A c] w fun e w' => e = .returned (.bool (decide (400 < sizeQ r))) ∧ Below w.heap.size w w' := by
  obtain ⟨FA, fc, rfl, f1, f2, f3, f4⟩ := hp.fields.form
  have hqx := QCell.new w (.string (strOf r.m)) (.string (strOf r.p)) (.slice FA r.fs.length fc) (.slice A r.body.length c)
  have hbx := below_new w (.cells #[.string (strOf r.m), .string (strOf r.p), .slice FA r.fs.length fc, .slice A r.body.length c] 33)
  have FT := hideIt (f4.keep hbx)
  have BX := hideIt hbx
  have QX := hideIt hqx
  have h1 := strOf_size r.m
  have h2 := strOf_size r.p
  have hs : sizeQ r = r.m.length + r.p.length + r.body.length + bulkQ r.fs := rfl
  have hlen := bulkQ_len r.fs
  have hw1 : IntKind.i64.wrap (((strOf r.m).size : Int) + ((strOf r.p).size : Int)) = ((strOf r.m).size : Int) + ((strOf r.p).size : Int) := IntWalk.i64_in _ (by omega)
  obtain ⟨K, hK⟩ : ∃ K, r.m.length + r.p.length + r.body.length = K := ⟨_, rfl⟩
  have hw2 : IntKind.i64.wrap (((strOf r.m).size : Int) + ((strOf r.p).size : Int) + (r.body.length : Int)) = (K : Int) := by rw [IntWalk.i64_in _ (by omega)]; omega
  have HS : Hid (sizeQ r = K + bulkQ r.fs) := hideIt (by omega)
  have HBK : Hid (K + bulkQ r.fs ≤ 1048576) := hideIt (by omega)
  have q0 := hqx.c0
  have q1 := hqx.c1
  have q2 := hqx.c2
  have q3 := hqx.c3
  have hnf : r.fs.length ≤ 1048576 := by omega
  unfold reqV
  rw [HS.out]
  clear hp f1 f2 f3 f4 hqx hbx h1 h2 hs hlen HS hK hB
  generalize strOf r.m = sm at *
  generalize strOf r.p = spp at *
  generalize hfs : r.fs = fs at *
  have HFS := hideIt hfs
  clear hfs
  generalize hnn : fs.length = nf at *
  have HNF := hideIt hnn
  clear hnn
  generalize r.body.length = nb at *
  obtain ⟨bo, hbo⟩ : ∃ bo, decide (400 < K + bulkQ fs) = bo := ⟨_, rfl⟩
  rw [hbo]
  have HV := hideIt hbo
  clear hbo
  go_enter Tryd.func16, Tryd.ntmps16
  go_wp2_with fail
  generalize w.alloc (.cells #[.string sm, .string spp, .slice FA nf fc, .slice A nb c] 33) = X at *
  go_loopw [3, 4] (fun t i wr => ∃ (j : Nat), j ≤ nf ∧ i = .int .i64 (j : Int) ∧ t = .int .i64 ((K + bulkQ (fs.take j) : Nat) : Int) ∧ Below X.heap.size X wr) (fun _ i _ => nf - (intOf i).toNat)
  case atStart => exact ⟨0, by omega, rfl, by simp [bulkQ], Below.refl _ _⟩
  case round =>
    obtain ⟨j, hj, rfl, rfl, hb⟩ := hrel
    have HB := hideIt hb
    have Q2 := hideIt (QX.out.keep hb QX.out.lt)
    have q2' := Q2.out.c2
    clear hb q0 q1 q2 q3
    by_cases hlt : j < nf
    · have hlt' : (j : Int) < (nf : Int) := by omega
      have hjn := hlt
      have hwj : IntKind.i64.wrap ((j : Int) + 1) = (j : Int) + 1 := IntWalk.i64_in _ (by omega)
      obtain ⟨x, hx⟩ : ∃ x, fs[j]? = some x := ⟨_, List.getElem?_eq_getElem (by have := HNF.out; omega)⟩
      have hbk := bulkQ_take fs j x hx
      have hble := bulkQ_le fs (j + 1)
      obtain ⟨p1, p2⟩ := x
      simp only at hbk
      obtain ⟨b, off, rfl, lb, kb⟩ := (FT.out.keep HB.out) (by have := HNF.out; omega)
      obtain ⟨c1, c2⟩ := kb j _ hx
      rw [show off + 2 * j = off + j * 2 by omega] at c1 c2
      have HC1 := hideIt c1
      have HC2 := hideIt c2
      have HLB := hideIt lb
      have hbound := HBK.out
      obtain ⟨z, hz⟩ : ∃ z, K + bulkQ (fs.take j) = z := ⟨_, rfl⟩
      obtain ⟨zn, hzn⟩ : ∃ z, K + bulkQ (fs.take (j + 1)) = z := ⟨_, rfl⟩
      have hz1 : IntKind.i64.wrap (1 + (p1.length : Int)) = 1 + (p1.length : Int) := IntWalk.i64_in _ (by omega)
      have hz2 : IntKind.i64.wrap (1 + (p1.length : Int) + (p2.length : Int)) = 1 + (p1.length : Int) + (p2.length : Int) := IntWalk.i64_in _ (by omega)
      have hz3 : IntKind.i64.wrap ((z : Int) + (1 + (p1.length : Int) + (p2.length : Int))) = (zn : Int) := by rw [IntWalk.i64_in _ (by omega)]; omega
      rw [hz]
      have HZN := hideIt hzn
      clear kb hx lb c1 c2 hbk hble hz hzn hbound
      go_upto_region 5 with fail
      refine region_inv [Fact.is (.int .i64 ((z : Nat) : Int)), Fact.is (.pointer (some ⟨w.heap.size, 0 + 2, none⟩)), Fact.is (.slice (some ⟨b, off, none⟩) nf fc), Fact.is (.int .i64 ((j : Nat) : Int)), Fact.is (.pointer (some ⟨b, off + j * 2, none⟩)), Fact.is (.pointer (some ⟨b, off + j * 2, none⟩)), Fact.str (p1), Fact.is (.int .i64 ((p1).length : Int)), Fact.is (.int .i64 (1 + (p1.length : Int))), Fact.is (.pointer (some ⟨w.heap.size, 0 + 2, none⟩)), Fact.is (.slice (some ⟨b, off, none⟩) nf fc), Fact.is (.int .i64 ((j : Nat) : Int)), Fact.is (.pointer (some ⟨b, off + j * 2, none⟩)), Fact.is (.pointer (some ⟨b, off + j * 2 + 1, none⟩)), Fact.str (p2), Fact.is (.int .i64 ((p2).length : Int)), Fact.is (.int .i64 (1 + (p1.length : Int) + (p2.length : Int))), Fact.is (.int .i64 ((zn : Nat) : Int)), Fact.is (.int .i64 ((zn : Nat) : Int))] (by kernel_rfl) (by kernel_rfl) ⟨fun a w1 m => ?_, fun a w1 m => ?_, fun a w1 m => ?_, fun a w1 m => ?_, fun a w1 m => ?_, fun a w1 m => ?_, fun a w1 m => ?_, fun a w1 m => ?_, fun a w1 m => ?_, fun a w1 m => ?_, fun a w1 m => ?_, fun a w1 m => ?_, fun a w1 m => ?_, fun a w1 m => ?_, fun a w1 m => ?_, fun a w1 m => ?_, fun a w1 m => ?_, fun a w1 m => ?_, fun a w1 m => ?_, trivial⟩ ?_
      · exact ok_move (wanted_none rfl) (.tmp 3) rfl (m.old 3 rfl)
      · exact ok_fieldQ2b (wanted_none rfl) (.tmp 1) rfl w.heap.size 0 (m.old 1 rfl)
      · exact ok_loadFv (wanted_none rfl) (.tmp 24) rfl ⟨w.heap.size, 0 + 2, none⟩ _ (m.has 1 24 rfl rfl) ((m.grew.cell (p := ⟨w.heap.size, 2, none⟩) Q2.out.lt).trans Q2.out.c2)
      · exact ok_move (wanted_none rfl) (.tmp 4) rfl (m.old 4 rfl)
      · exact ok_indexP (wanted_none rfl) (.tmp 25) (.tmp 26) rfl b off nf fc j (m.has 2 25 rfl rfl) (m.has 3 26 rfl rfl) hjn
      · exact ok_field0 (wanted_none rfl) (.tmp 27) rfl _ _ (m.has 4 27 rfl rfl)
      · exact ok_loadS (wanted_none rfl) (.tmp 28) rfl _ _ (m.has 5 28 rfl rfl) ((m.grew.cell (p := ⟨b, off + j * 2, none⟩) HLB.out).trans HC1.out)
      · exact ok_strlen (wanted_none rfl) (.tmp 29) rfl _ (m.has 6 29 rfl rfl)
      · exact ok_bin (wanted_none rfl) _ _ _ _ (.tmp 30) rfl _ _ _ (rfl) (m.has 7 30 rfl rfl) rfl (run_addz _ _ _ hz1)
      · exact ok_fieldQ2b (wanted_none rfl) (.tmp 1) rfl w.heap.size 0 (m.old 1 rfl)
      · exact ok_loadFv (wanted_none rfl) (.tmp 32) rfl ⟨w.heap.size, 0 + 2, none⟩ _ (m.has 9 32 rfl rfl) ((m.grew.cell (p := ⟨w.heap.size, 2, none⟩) Q2.out.lt).trans Q2.out.c2)
      · exact ok_move (wanted_none rfl) (.tmp 4) rfl (m.old 4 rfl)
      · exact ok_indexP (wanted_none rfl) (.tmp 33) (.tmp 34) rfl b off nf fc j (m.has 10 33 rfl rfl) (m.has 11 34 rfl rfl) hjn
      · exact ok_field1 (wanted_none rfl) (.tmp 35) rfl _ _ (m.has 12 35 rfl rfl)
      · exact ok_loadS (wanted_none rfl) (.tmp 36) rfl _ _ (m.has 13 36 rfl rfl) ((m.grew.cell (p := ⟨b, off + j * 2 + 1, none⟩) HLB.out).trans HC2.out)
      · exact ok_strlen (wanted_none rfl) (.tmp 37) rfl _ (m.has 14 37 rfl rfl)
      · exact ok_bin (wanted_none rfl) _ _ _ (.tmp 31) (.tmp 38) rfl _ _ _ (m.has 8 31 rfl rfl) (m.has 15 38 rfl rfl) rfl (run_addz _ _ _ hz2)
      · exact ok_bin (wanted_none rfl) _ _ _ (.tmp 23) (.tmp 39) rfl _ _ _ (m.has 0 23 rfl rfl) (m.has 16 39 rfl rfl) rfl (run_addz _ _ _ hz3)
      · exact ok_assign (wanted_none rfl) (.tmp 40) rfl (m.has 17 40 rfl rfl)
      intro f w9 hg hf
      have e18 : f 18 = .int .i64 ((zn : Nat) : Int) := hf 18 (by decide)
      have B9 := hideIt (below_then HB.out hg)
      clear hf hg
      simp only [List.take, List.drop, putAll, Act.put, List.setIfInBounds_toArray, List.set_cons_succ, List.set_cons_zero]
      rw [e18]
      clear e18 hz1 hz2 hz3 q2'
      go_wp2_with fail
      go_roundw
      case rel => exact ⟨j + 1, by omega, by go_num, by rw [HZN.out], B9.out⟩
      case measure => simp [intOf]; omega
    · obtain rfl : j = nf := by omega
      have hlt' : ¬ (j : Int) < (j : Int) := by omega
      rw [List.take_of_length_le (by have := HNF.out; omega)]
      generalize K + bulkQ fs = z at *
      have BT := hideIt (below_then BX.out HB.out)
      by_cases h4 : 400 < z
      · have h4' : (400 : Int) < (z : Int) := by omega
        rw [decide_eq_true h4] at HV
        clear h4
        go_wp2_with fail
        go_ret
        exact ⟨by rw [← HV.out]; rfl, BT.out⟩
      · have h4' : ¬ (400 : Int) < (z : Int) := by omega
        rw [decide_eq_false h4] at HV
        clear h4
        go_wp2_with fail
        go_ret
        exact ⟨by rw [← HV.out]; rfl, BT.out⟩
end Go.Proofs.YtbojigimldfghaaDoor
