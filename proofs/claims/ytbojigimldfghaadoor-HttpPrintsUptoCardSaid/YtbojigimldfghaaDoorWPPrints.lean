/- The walk of HttpPrints, in the second form. -/
import Derived.Test.YtbojigimldfghaaDoorHttpPrints
import Derived.Test.YtbojigimldfghaaDoorHttpFacts
import Derived.Test.YtbojigimldfghaaDoorHttpRaw
import Derived.Test.YtbojigimldfghaaDoorHttpKnown
import Derived.Test.YtbojigimldfghaaDoorHttpLaid
import Derived.Deep.Cut
namespace Go.Proofs.YtbojigimldfghaaDoor
open Go.ChangeShapes Go.WideShapes Go.ChangeAt Go.RowKit
set_option linter.unusedVariables false
set_option linter.unusedSimpArgs false

theorem go_same4x : goFn Tryd.prog 19 = true := by kernel_rfl
theorem go_refsame4x : goFn Tryd.prog 20 = true := by kernel_rfl
section
variable {ops : Array Oper} {Q : Exit → Act → World → Prop} {G : Fact} {o : Oper} {a : Act} {w : World}
theorem ok_loadQ (hg : Region.wanted o (yielded ops a.tmps) = true) (x : Operand) (ho : o.op = .load 33 x) (g : Nat) (r : ReqL) (fv : Value) (A : Option Addr) (c : Nat) (h1 : a.eval x = .pointer (some ⟨g, 0, none⟩)) (hQ : QCell w g (.string (strOf r.m)) (.string (strOf r.p)) fv (.slice A r.body.length c)) (hp : ReqParts fv A c r w) : StepOk Tryd.prog ops Q (Fact.reqv r) o a w := by
  have hr := hQ.load
  exact ok_same hg (reqV r fv A c) (by simp only [execOp, ho, h1, Instr.loadAt, Instr.sureAddr, Sem.run_bind, Sem.run_pure, Result.andThen_ok, hr]; rfl) ⟨fv, A, c, rfl, hp⟩
theorem ok_prints9 (hg : Region.wanted o (yielded ops a.tmps) = true) (x : Operand) (ts : Array TypeId) (ho : o.op = .call { callee := .value (.func 18), args := #[x], argTypes := ts }) (r : ReqL) (h : (Fact.reqv r).p (a.eval x) w) (hB : sizeQ r ≤ 20000) (hm : MaxOk w) : StepOk Tryd.prog ops Q (Fact.is (.bool true)) o a w := by
  obtain ⟨fv, A, c, e, hp⟩ := h
  exact ok_fn hg _ _ _ ho _ (map1 e) go_prints9 (prints9_any r fv A c w hp hB hm) (by rintro e w' ⟨rfl, hb⟩; exact ⟨_, rfl, rfl, hb⟩)
theorem ok_same4 (hg : Region.wanted o (yielded ops a.tmps) = true) (x y : Operand) (ts : Array TypeId) (ho : o.op = .call { callee := .value (.func 19), args := #[x, y], argTypes := ts }) (r q : ReqL) (h1 : (Fact.reqv r).p (a.eval x) w) (h2 : (Fact.reqv q).p (a.eval y) w) (hl : r.fs.length ≤ 1000000) (b : Bool) (hb : sameQ r q = b) : StepOk Tryd.prog ops Q (Fact.is (.bool b)) o a w := by
  subst hb
  obtain ⟨fv, A, c, e, hp⟩ := h1
  obtain ⟨gv, B, d, e', hq⟩ := h2
  exact ok_fn hg _ _ _ ho _ (map2 e e') go_same4x (same4_any r q fv gv A B c d w hp hq hl) (by rintro e w' ⟨rfl, hb⟩; exact ⟨_, rfl, rfl, hb⟩)
theorem ok_refsame4 (hg : Region.wanted o (yielded ops a.tmps) = true) (x y : Operand) (ts : Array TypeId) (ho : o.op = .call { callee := .value (.func 20), args := #[x, y], argTypes := ts }) (r q : ReqL) (h1 : (Fact.reqv r).p (a.eval x) w) (h2 : (Fact.reqv q).p (a.eval y) w) (hl : r.fs.length ≤ 1000000) (b : Bool) (hb : sameQ r q = b) : StepOk Tryd.prog ops Q (Fact.is (.bool b)) o a w := by
  subst hb
  obtain ⟨fv, A, c, e, hp⟩ := h1
  obtain ⟨gv, B, d, e', hq⟩ := h2
  exact ok_fn hg _ _ _ ho _ (map2 e e') go_refsame4x (refsame4_any r q fv gv A B c d w hp hq hl) (by rintro e w' ⟨rfl, hb⟩; exact ⟨_, rfl, rfl, hb⟩)
end
set_option maxRecDepth 8000 in
set_option maxHeartbeats 4000000 in
theorem httpPrintsUpto_walk (x0 : ReqL) (f0 : Value) (a0 : Option Addr) (c0 : Nat) (x1 : ReqL) (f1 : Value) (a1 : Option Addr) (c1 : Nat) (a2 : Option Addr) (len2 cap2 : Nat) (z2 : List Int) (a3 : Int) (w : World) (w0 : ReqParts f0 a0 c0 x0 w) (w1 : ReqParts f1 a1 c1 x1 w) (w2 : IsRow .u8 w a2 len2 cap2 z2) (w3 : (Lit.int .u8 a3).wf = true) (hT : Tabs w) (r2 : cap2 ≤ 140737488355328) (b0 : sizeQ x0 ≤ 1048576) (b1 : sizeQ x1 ≤ 1048576) :
    Calls Tryd.prog 4 #[reqV x0 f0 a0 c0, reqV x1 f1 a1 c1, .slice a2 len2 cap2, .int .u8 a3] w fun e w' => e = .returned (.bool true) ∧ Below w.heap.size w w' := by
  have hm : MaxOk w := hT
  obtain ⟨FA, fc, rfl, _⟩ := w0.fields.form
  obtain ⟨FB, fd, rfl, _⟩ := w1.fields.form
  obtain ⟨_, _, hlc2, _⟩ := w2.bytes
  obtain ⟨cs, hcl, _, hcp⟩ := row_piece w2 (by omega)
  have hb3 := bounds_u8 w3
  obtain ⟨k, rfl⟩ : ∃ k : Nat, a3 = (k : Int) := ⟨a3.toNat, by omega⟩
  have hk : k < 256 := by omega
  obtain ⟨X, hX⟩ : ∃ X, w.alloc (.cells #[.string (strOf x0.m), .string (strOf x0.p), .slice FA x0.fs.length fc, .slice a0 x0.body.length c0] 33) = X := ⟨_, rfl⟩
  obtain ⟨Y, hY⟩ : ∃ Y, X.alloc (.cells #[.string (strOf x1.m), .string (strOf x1.p), .slice FB x1.fs.length fd, .slice a1 x1.body.length c1] 33) = Y := ⟨_, rfl⟩
  have hbx : Below w.heap.size w X := by rw [← hX]; exact below_new w _
  have hby : Below X.heap.size X Y := by rw [← hY]; exact below_new X _
  have hq0 : QCell X w.heap.size (.string (strOf x0.m)) (.string (strOf x0.p)) (.slice FA x0.fs.length fc) (.slice a0 x0.body.length c0) := by rw [← hX]; exact QCell.new w _ _ _ _
  have hq1 : QCell Y X.heap.size (.string (strOf x1.m)) (.string (strOf x1.p)) (.slice FB x1.fs.length fd) (.slice a1 x1.body.length c1) := by rw [← hY]; exact QCell.new X _ _ _ _
  have hxs : X.heap.size = w.heap.size + 1 := by rw [← hX]; exact alloc_size w _
  rw [hxs] at hq1
  have BY := hideIt (below_then hbx hby)
  have Q0 := hideIt (hq0.keep hby hq0.lt)
  have Q1 := hideIt hq1
  have P0 := hideIt (w0.keep BY.out)
  have P1 := hideIt (w1.keep BY.out)
  have HCP := hideIt (hcp.keep BY.out)
  have HCL := hideIt hcl
  have HM := hideIt (hm.keep BY.out)
  have HK := hideIt (fun w' (hb : Below Y.heap.size Y w') => known9_any w' ((hm.keep BY.out).keep hb))
  have HH0 := hideIt (heavy9_any x0 (.slice FA x0.fs.length fc) a0 c0 Y P0.out b0)
  have HH1 := hideIt (fun w' (hb : Below Y.heap.size Y w') => heavy9_any x1 (.slice FB x1.fs.length fd) a1 c1 w' (P1.out.keep hb) b1)
  have HX := hideIt hX
  have HY := hideIt hY
  unfold reqV at HH0 HH1 ⊢
  clear w0 w1 w2 w3 hT r2 b0 b1 hm hcp hcl hlc2 hb3 hbx hby hq0 hq1 hX hY hxs
  go_enter Tryd.func4, Tryd.ntmps4
  go_upto_region 1 with fail
  rw [HX.out, HY.out]
  have q00 := Q0.out.c0
  have q01 := Q0.out.c1
  have q02 := Q0.out.c2
  have q03 := Q0.out.c3
  go_wp2_with fail
  refine HH0.out.mono ?_
  rintro e u1 ⟨rfl, hb1⟩
  have B1 := hideIt hb1
  clear hb1 HH0 q00 q01 q02 q03 HX HY
  cases hd0 : decide (400 < sizeQ x0)
  · have hs0 : sizeQ x0 ≤ 400 := by have := of_decide_eq_false hd0; omega
    have HS0 := hideIt hs0
    have q1 := Q1.out.keep B1.out Q1.out.lt
    have q10 := q1.c0
    have q11 := q1.c1
    have q12 := q1.c2
    have q13 := q1.c3
    clear hs0 hd0 q1
    go_wp2_with fail
    refine (HH1.out u1 B1.out).mono ?_
    rintro e u2 ⟨rfl, hb2⟩
    have B2 := hideIt (below_then B1.out hb2)
    clear hb2 HH1 q10 q11 q12 q13 B1
    cases hd1 : decide (400 < sizeQ x1)
    · have hs1 : sizeQ x1 ≤ 400 := by have := of_decide_eq_false hd1; omega
      have HS1 := hideIt hs1
      clear hs1 hd1
      go_wp2_with fail
      refine (HK.out u2 B2.out).mono ?_
      rintro e u3 ⟨rfl, hb3⟩
      have B3 := hideIt (below_then B2.out hb3)
      have HRW := hideIt (raw_any a2 cs len2 cap2 k u3 (HCP.out.keep B3.out) HCL.out hk)
      clear hb3 B2 HK
      go_wp2_with fail
      refine HRW.out.mono ?_
      rintro e u4 ⟨gr, dr, l, rfl, hpl, hl2, hl5, hb4⟩
      have B4 := hideIt (below_then B3.out hb4)
      have HRP := hideIt (refparse_any (some ⟨gr, 0, none⟩) l l.length dr u4 hpl rfl (by omega))
      have hrb := req_bulk l
      generalize reqL l = RR at *
      have HRB : Hid (sizeQ RR.1 ≤ 1000) := hideIt (by omega)
      clear hb4 HRW B3 hpl hl2 hl5 hrb
      generalize l.length = nl at *
      go_wp2_with fail
      refine HRP.out.mono ?_
      rintro e u5 ⟨fv, C, cc, rfl, hparts, hb5⟩
      obtain ⟨GA, gc, rfl, _⟩ := hparts.fields.form
      obtain ⟨R, kR⟩ := RR
      dsimp only at hparts ⊢
      have HRB : Hid (sizeQ R ≤ 1000) := HRB
      have hbn := below_new u5 (.cells #[.string (strOf R.m), .string (strOf R.p), .slice GA R.fs.length gc, .slice C R.body.length cc] 33)
      have B5 := hideIt (below_then (below_then B4.out hb5) hbn)
      have QZ := hideIt (QCell.new u5 (.string (strOf R.m)) (.string (strOf R.p)) (.slice GA R.fs.length gc) (.slice C R.body.length cc))
      have PZ := hideIt (hparts.keep hbn)
      clear hb5 hbn hparts HRP B4
      unfold reqV
      go_upto_region 4 with fail
      generalize u5.alloc (.cells #[.string (strOf R.m), .string (strOf R.p), .slice GA R.fs.length gc, .slice C R.body.length cc] 33) = Z at *
      generalize u5.heap.size = g9 at *
      have Q0Z := hideIt (Q0.out.keep B5.out Q0.out.lt)
      have Q1Z := hideIt (Q1.out.keep B5.out Q1.out.lt)
      have P0Z := hideIt (P0.out.keep B5.out)
      have P1Z := hideIt (P1.out.keep B5.out)
      have MZ := hideIt (HM.out.keep B5.out)
      have BZ := hideIt (below_then BY.out B5.out)
      have L0 : Hid (x0.fs.length ≤ 1000000) := hideIt (by have := bulkQ_len x0.fs; have := HS0.out; unfold sizeQ at this; omega)
      have LR : Hid (R.fs.length ≤ 1000000) := hideIt (by have := bulkQ_len R.fs; have := HRB.out; unfold sizeQ at this; omega)
      have E0 : Hid (sizeQ x0 ≤ 20000) := hideIt (by have := HS0.out; omega)
      have ER : Hid (sizeQ R ≤ 20000) := hideIt (by have := HRB.out; omega)
      refine region_inv [Fact.reqv x0, Fact.is (.bool true), Fact.is (.bool true), Fact.reqv R, Fact.is (.bool true), Fact.is (.bool true), Fact.is (.bool true), Fact.reqv x0, Fact.reqv x1, Fact.is (.bool (sameQ x0 x1)), Fact.reqv x0, Fact.reqv x1, Fact.is (.bool (sameQ x0 x1)), Fact.is (.bool true), Fact.is (.bool true), Fact.is (.bool true), Fact.reqv R, Fact.reqv x0, Fact.is (.bool (sameQ R x0)), Fact.reqv R, Fact.reqv x0, Fact.is (.bool (sameQ R x0)), Fact.is (.bool true), Fact.is (.bool true), Fact.is (.bool true), Fact.reqv R, Fact.reqv R, Fact.is (.bool true), Fact.is (.bool true), Fact.is (.bool true)] (by kernel_rfl) (by kernel_rfl) ⟨fun a w1 m => ?_, fun a w1 m => ?_, fun a w1 m => ?_, fun a w1 m => ?_, fun a w1 m => ?_, fun a w1 m => ?_, fun a w1 m => ?_, fun a w1 m => ?_, fun a w1 m => ?_, fun a w1 m => ?_, fun a w1 m => ?_, fun a w1 m => ?_, fun a w1 m => ?_, fun a w1 m => ?_, fun a w1 m => ?_, fun a w1 m => ?_, fun a w1 m => ?_, fun a w1 m => ?_, fun a w1 m => ?_, fun a w1 m => ?_, fun a w1 m => ?_, fun a w1 m => ?_, fun a w1 m => ?_, fun a w1 m => ?_, fun a w1 m => ?_, fun a w1 m => ?_, fun a w1 m => ?_, fun a w1 m => ?_, fun a w1 m => ?_, fun a w1 m => ?_, trivial⟩ ?_
      · exact ok_loadQ (wanted_none rfl) (.tmp 4) rfl w.heap.size x0 _ _ _ (m.old 4 rfl) (Q0Z.out.keep m.grew Q0Z.out.lt) (P0Z.out.keep m.grew)
      · exact ok_prints9 (wanted_none rfl) (.tmp 29) _ rfl x0 (m.has 0 29 rfl rfl) E0.out (MZ.out.keep m.grew)
      · exact ok_move (wanted_none rfl) (.tmp 30) rfl (m.has 1 30 rfl rfl)
      · exact ok_loadQ (wanted_some 2 true rfl 31 rfl true (m.has 2 31 rfl rfl)) (.tmp 9) rfl g9 R _ _ _ (m.old 9 rfl) (QZ.out.keep m.grew QZ.out.lt) (PZ.out.keep m.grew)
      · exact ok_prints9 (wanted_some 2 true rfl 31 rfl true (m.has 2 31 rfl rfl)) (.tmp 32) _ rfl R (m.has 3 32 rfl rfl) ER.out (MZ.out.keep m.grew)
      · exact ok_pickT (wanted_none rfl) (.tmp 31) _ _ rfl (m.has 2 31 rfl rfl) (m.has 4 33 rfl rfl)
      · exact ok_move (wanted_none rfl) (.tmp 34) rfl (m.has 5 34 rfl rfl)
      · exact ok_loadQ (wanted_some 6 true rfl 35 rfl true (m.has 6 35 rfl rfl)) (.tmp 4) rfl w.heap.size x0 _ _ _ (m.old 4 rfl) (Q0Z.out.keep m.grew Q0Z.out.lt) (P0Z.out.keep m.grew)
      · exact ok_loadQ (wanted_some 6 true rfl 35 rfl true (m.has 6 35 rfl rfl)) (.tmp 5) rfl (w.heap.size + 1) x1 _ _ _ (m.old 5 rfl) (Q1Z.out.keep m.grew Q1Z.out.lt) (P1Z.out.keep m.grew)
      · exact ok_same4 (wanted_some 6 true rfl 35 rfl true (m.has 6 35 rfl rfl)) (.tmp 36) (.tmp 37) _ rfl x0 x1 (m.has 7 36 rfl rfl) (m.has 8 37 rfl rfl) L0.out _ (rfl)
      · exact ok_loadQ (wanted_some 6 true rfl 35 rfl true (m.has 6 35 rfl rfl)) (.tmp 4) rfl w.heap.size x0 _ _ _ (m.old 4 rfl) (Q0Z.out.keep m.grew Q0Z.out.lt) (P0Z.out.keep m.grew)
      · exact ok_loadQ (wanted_some 6 true rfl 35 rfl true (m.has 6 35 rfl rfl)) (.tmp 5) rfl (w.heap.size + 1) x1 _ _ _ (m.old 5 rfl) (Q1Z.out.keep m.grew Q1Z.out.lt) (P1Z.out.keep m.grew)
      · exact ok_refsame4 (wanted_some 6 true rfl 35 rfl true (m.has 6 35 rfl rfl)) (.tmp 39) (.tmp 40) _ rfl x0 x1 (m.has 10 39 rfl rfl) (m.has 11 40 rfl rfl) L0.out _ (rfl)
      · exact ok_booleq (wanted_some 6 true rfl 35 rfl true (m.has 6 35 rfl rfl)) (.tmp 38) (.tmp 41) _ rfl _ _ (m.has 9 38 rfl rfl) (m.has 12 41 rfl rfl) _ (decide_eq_true rfl)
      · exact ok_pickT (wanted_none rfl) (.tmp 35) _ _ rfl (m.has 6 35 rfl rfl) (m.has 13 42 rfl rfl)
      · exact ok_move (wanted_none rfl) (.tmp 43) rfl (m.has 14 43 rfl rfl)
      · exact ok_loadQ (wanted_some 15 true rfl 44 rfl true (m.has 15 44 rfl rfl)) (.tmp 9) rfl g9 R _ _ _ (m.old 9 rfl) (QZ.out.keep m.grew QZ.out.lt) (PZ.out.keep m.grew)
      · exact ok_loadQ (wanted_some 15 true rfl 44 rfl true (m.has 15 44 rfl rfl)) (.tmp 4) rfl w.heap.size x0 _ _ _ (m.old 4 rfl) (Q0Z.out.keep m.grew Q0Z.out.lt) (P0Z.out.keep m.grew)
      · exact ok_same4 (wanted_some 15 true rfl 44 rfl true (m.has 15 44 rfl rfl)) (.tmp 45) (.tmp 46) _ rfl R x0 (m.has 16 45 rfl rfl) (m.has 17 46 rfl rfl) LR.out _ (rfl)
      · exact ok_loadQ (wanted_some 15 true rfl 44 rfl true (m.has 15 44 rfl rfl)) (.tmp 9) rfl g9 R _ _ _ (m.old 9 rfl) (QZ.out.keep m.grew QZ.out.lt) (PZ.out.keep m.grew)
      · exact ok_loadQ (wanted_some 15 true rfl 44 rfl true (m.has 15 44 rfl rfl)) (.tmp 4) rfl w.heap.size x0 _ _ _ (m.old 4 rfl) (Q0Z.out.keep m.grew Q0Z.out.lt) (P0Z.out.keep m.grew)
      · exact ok_refsame4 (wanted_some 15 true rfl 44 rfl true (m.has 15 44 rfl rfl)) (.tmp 48) (.tmp 49) _ rfl R x0 (m.has 19 48 rfl rfl) (m.has 20 49 rfl rfl) LR.out _ (rfl)
      · exact ok_booleq (wanted_some 15 true rfl 44 rfl true (m.has 15 44 rfl rfl)) (.tmp 47) (.tmp 50) _ rfl _ _ (m.has 18 47 rfl rfl) (m.has 21 50 rfl rfl) _ (decide_eq_true rfl)
      · exact ok_pickT (wanted_none rfl) (.tmp 44) _ _ rfl (m.has 15 44 rfl rfl) (m.has 22 51 rfl rfl)
      · exact ok_move (wanted_none rfl) (.tmp 52) rfl (m.has 23 52 rfl rfl)
      · exact ok_loadQ (wanted_some 24 true rfl 53 rfl true (m.has 24 53 rfl rfl)) (.tmp 9) rfl g9 R _ _ _ (m.old 9 rfl) (QZ.out.keep m.grew QZ.out.lt) (PZ.out.keep m.grew)
      · exact ok_loadQ (wanted_some 24 true rfl 53 rfl true (m.has 24 53 rfl rfl)) (.tmp 9) rfl g9 R _ _ _ (m.old 9 rfl) (QZ.out.keep m.grew QZ.out.lt) (PZ.out.keep m.grew)
      · exact ok_same4 (wanted_some 24 true rfl 53 rfl true (m.has 24 53 rfl rfl)) (.tmp 54) (.tmp 55) _ rfl R R (m.has 25 54 rfl rfl) (m.has 26 55 rfl rfl) LR.out _ (sameQ_refl R)
      · exact ok_pickT (wanted_none rfl) (.tmp 53) _ _ rfl (m.has 24 53 rfl rfl) (m.has 27 56 rfl rfl)
      · exact ok_assign (wanted_none rfl) (.tmp 57) rfl (m.has 28 57 rfl rfl)
      intro f w9 hg hf
      exact fin_ret ‹_› rfl rfl rfl 29 rfl ⟨congrArg Ending.returned (hf 29 (by decide)), below_then BZ.out hg⟩
    · clear hd1
      go_wp2_with fail
      refine (HK.out u2 B2.out).mono ?_
      rintro e u3 ⟨rfl, hb3⟩
      have BT := hideIt (below_then BY.out (below_then B2.out hb3))
      clear hb3
      go_wp2_with fail
      go_ret
      exact ⟨rfl, BT.out⟩
  · clear hd0
    go_wp2_with fail
    refine (HK.out u1 B1.out).mono ?_
    rintro e u3 ⟨rfl, hb3⟩
    have BT := hideIt (below_then BY.out (below_then B1.out hb3))
    clear hb3
    go_wp2_with fail
    go_ret
    exact ⟨rfl, BT.out⟩
end Go.Proofs.YtbojigimldfghaaDoor
