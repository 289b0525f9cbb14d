/- Contracts of resp.Same and the reference's Same of responses. -/
import Derived.Test.YtolikoediafkkaaDoorPairSame
import Derived.Test.YtolikoediafkkaaDoorRespFacts
import Derived.Deep.Cut
import Derived.Handy
namespace Go.Proofs.YtolikoediafkkaaDoor
open Go.ChangeShapes Go.WideShapes Go.ChangeAt Go.RowKit
set_option linter.unusedVariables false
set_option linter.unusedSimpArgs false

def sameR (a b : RespL) : Bool := decide (a.status = b.status) && (decide (a.fs = b.fs) && decide (a.body = b.body))
theorem sameR_refl (a : RespL) : sameR a a = true := by simp [sameR]
theorem sameR_iff (a b : RespL) : sameR a b = true ↔ a = b := by
  unfold sameR
  simp only [Bool.and_eq_true, decide_eq_true_eq]
  constructor
  · rintro ⟨h1, h2, h3⟩
    cases a; cases b
    simp only at h1 h2 h3
    rw [h1, h2, h3]
  · rintro rfl
    exact ⟨rfl, rfl, rfl⟩
set_option maxRecDepth 8000 in
set_option maxHeartbeats 4000000 in
theorem rsame_any (a b : RespL) (fv gv : Value) (A B : Option Addr) (c d : Nat) (w : World) (ha : RespParts fv A c a w) (hb : RespParts gv B d b w) (hl : a.fs.length ≤ 140737488355328) :
    Calls Tryd.prog 17 #[respV a fv A c, respV b gv B d] w fun e w' => e = .returned (.bool (sameR a b)) ∧ Below w.heap.size w w' := by
  obtain ⟨FA, fc, rfl, f1, f2, f3, f4⟩ := ha.fields.form
  obtain ⟨GA, gc, rfl, g1, g2, g3, g4⟩ := hb.fields.form
  unfold respV
  have QA := hideIt (RCell.new w (.int .i64 a.status) (.slice FA a.fs.length fc) (.slice A a.body.length c))
  have hs : (w.alloc (.cells #[.int .i64 a.status, .slice FA a.fs.length fc, .slice A a.body.length c] 25)).heap.size = w.heap.size + 1 := alloc_size _ _
  obtain ⟨X1, hX1⟩ : ∃ X, w.alloc (.cells #[.int .i64 a.status, .slice FA a.fs.length fc, .slice A a.body.length c] 25) = X := ⟨_, rfl⟩
  have b1 : Below w.heap.size w X1 := by rw [← hX1]; exact below_new w _
  rw [hX1] at QA hs
  obtain ⟨X2, hX2⟩ : ∃ X, X1.alloc (.cells #[.int .i64 b.status, .slice GA b.fs.length gc, .slice B b.body.length d] 25) = X := ⟨_, rfl⟩
  have b2 : Below X1.heap.size X1 X2 := by rw [← hX2]; exact below_new X1 _
  have QB0 : RCell X2 (w.heap.size + 1) (.int .i64 b.status) (.slice GA b.fs.length gc) (.slice B b.body.length d) := by rw [← hX2, ← hs]; exact RCell.new X1 _ _ _
  have QA2 := hideIt (QA.out.keep b2 QA.out.lt)
  have QB := hideIt QB0
  have B2 := hideIt (below_then b1 b2)
  have PA := hideIt (ha.keep B2.out)
  have PB := hideIt (hb.keep B2.out)
  have HX : Hid ((w.alloc (.cells #[.int .i64 a.status, .slice FA a.fs.length fc, .slice A a.body.length c] 25)).alloc (.cells #[.int .i64 b.status, .slice GA b.fs.length gc, .slice B b.body.length d] 25) = X2) := hideIt (by rw [hX1, hX2])
  have HL := hideIt hl
  have E : Hid (sameR a b = (decide (a.status = b.status) && (decide (a.fs = b.fs) && decide (a.body = b.body)))) := hideIt rfl
  obtain ⟨R, hR⟩ : ∃ R, sameR a b = R := ⟨_, rfl⟩
  rw [hR] at E ⊢
  clear hR ha hb b1 b2 QB0 QA hX1 hX2 f1 f2 f3 f4 g1 g2 g3 g4 hs hl
  generalize hd3 : decide (a.fs = b.fs) = d3 at *
  generalize hd4 : decide (a.body = b.body) = d4 at *
  have HD3 := hideIt hd3
  have HD4 := hideIt hd4
  clear hd3 hd4
  generalize a.status = s1 at *
  generalize b.status = s2 at *
  have hst : (s1 == s2) = decide (s1 = s2) := by by_cases h : s1 = s2 <;> simp [h]
  go_enter Tryd.func17, Tryd.ntmps17
  go_upto_region 1 with fail
  rw [HX.out]
  have k0 := QA2.out.c0
  have k1 := QA2.out.c1
  have j0 := QB.out.c0
  have j1 := QB.out.c1
  by_cases h1 : s1 = s2
  case neg =>
    rw [decide_eq_false h1] at hst E
    go_wp2_with fail
    go_ret
    exact ⟨by rw [E.out]; rfl, B2.out⟩
  rw [decide_eq_true h1] at hst E
  subst h1
  clear hst
  simp only [Bool.true_and] at E
  have HS := hideIt (seq_any (.slice FA a.fs.length fc) (.slice GA b.fs.length gc) a.fs b.fs X2 PA.out.fields PB.out.fields HL.out)
  rw [HD3.out] at HS
  generalize a.fs.length = na at *
  generalize b.fs.length = nb at *
  go_wp2_with fail
  refine HS.out.mono ?_
  rintro e u1 ⟨rfl, hb⟩
  have B3 := hideIt (below_then B2.out hb)
  have QA3 := QA2.out.keep hb QA2.out.lt
  have QB3 := QB.out.keep hb QB.out.lt
  have PA3 := hideIt (PA.out.keep hb)
  have PB3 := hideIt (PB.out.keep hb)
  have m3 := QA3.c2
  have n3 := QB3.c2
  clear hb HS k0 k1 j0 j1
  cases d3
  · go_wp2_with fail
    go_ret
    exact ⟨by rw [E.out]; rfl, B3.out⟩
  simp only [Bool.true_and] at E
  have HB := hideIt (beq_any A B a.body b.body c d u1 PA3.out.body PB3.out.body)
  rw [HD4.out] at HB
  generalize a.body.length = ba at *
  generalize b.body.length = bb at *
  go_wp2_with fail
  refine HB.out.mono ?_
  rintro e u2 ⟨rfl, rfl⟩
  go_wp2_with fail
  go_ret
  exact ⟨by rw [E.out]; rfl, B3.out⟩
set_option maxRecDepth 8000 in
set_option maxHeartbeats 4000000 in
theorem refrsame_any (a b : RespL) (fv gv : Value) (A B : Option Addr) (c d : Nat) (w : World) (ha : RespParts fv A c a w) (hb : RespParts gv B d b w) (hl : a.fs.length ≤ 140737488355328) :
    Calls Tryd.prog 18 #[respV a fv A c, respV b gv B d] w fun e w' => e = .returned (.bool (sameR a b)) ∧ Below w.heap.size w w' := by
  obtain ⟨FA, fc, rfl, f1, f2, f3, f4⟩ := ha.fields.form
  obtain ⟨GA, gc, rfl, g1, g2, g3, g4⟩ := hb.fields.form
  unfold respV
  have QA := hideIt (RCell.new w (.int .i64 a.status) (.slice FA a.fs.length fc) (.slice A a.body.length c))
  have hs : (w.alloc (.cells #[.int .i64 a.status, .slice FA a.fs.length fc, .slice A a.body.length c] 25)).heap.size = w.heap.size + 1 := alloc_size _ _
  obtain ⟨X1, hX1⟩ : ∃ X, w.alloc (.cells #[.int .i64 a.status, .slice FA a.fs.length fc, .slice A a.body.length c] 25) = X := ⟨_, rfl⟩
  have b1 : Below w.heap.size w X1 := by rw [← hX1]; exact below_new w _
  rw [hX1] at QA hs
  obtain ⟨X2, hX2⟩ : ∃ X, X1.alloc (.cells #[.int .i64 b.status, .slice GA b.fs.length gc, .slice B b.body.length d] 25) = X := ⟨_, rfl⟩
  have b2 : Below X1.heap.size X1 X2 := by rw [← hX2]; exact below_new X1 _
  have QB0 : RCell X2 (w.heap.size + 1) (.int .i64 b.status) (.slice GA b.fs.length gc) (.slice B b.body.length d) := by rw [← hX2, ← hs]; exact RCell.new X1 _ _ _
  have QA2 := hideIt (QA.out.keep b2 QA.out.lt)
  have QB := hideIt QB0
  have B2 := hideIt (below_then b1 b2)
  have PA := hideIt (ha.keep B2.out)
  have PB := hideIt (hb.keep B2.out)
  have HX : Hid ((w.alloc (.cells #[.int .i64 a.status, .slice FA a.fs.length fc, .slice A a.body.length c] 25)).alloc (.cells #[.int .i64 b.status, .slice GA b.fs.length gc, .slice B b.body.length d] 25) = X2) := hideIt (by rw [hX1, hX2])
  have HL := hideIt hl
  have E : Hid (sameR a b = (decide (a.status = b.status) && (decide (a.fs = b.fs) && decide (a.body = b.body)))) := hideIt rfl
  obtain ⟨R, hR⟩ : ∃ R, sameR a b = R := ⟨_, rfl⟩
  rw [hR] at E ⊢
  clear hR ha hb b1 b2 QB0 QA hX1 hX2 f1 f2 f3 f4 g1 g2 g3 g4 hs hl
  generalize hd3 : decide (a.fs = b.fs) = d3 at *
  generalize hd4 : decide (a.body = b.body) = d4 at *
  have HD3 := hideIt hd3
  have HD4 := hideIt hd4
  clear hd3 hd4
  generalize a.status = s1 at *
  generalize b.status = s2 at *
  have hst : (s1 == s2) = decide (s1 = s2) := by by_cases h : s1 = s2 <;> simp [h]
  go_enter Tryd.func18, Tryd.ntmps18
  go_upto_region 1 with fail
  rw [HX.out]
  have k0 := QA2.out.c0
  have k1 := QA2.out.c1
  have j0 := QB.out.c0
  have j1 := QB.out.c1
  by_cases h1 : s1 = s2
  case neg =>
    rw [decide_eq_false h1] at hst E
    go_wp2_with fail
    go_ret
    exact ⟨by rw [E.out]; rfl, B2.out⟩
  rw [decide_eq_true h1] at hst E
  subst h1
  clear hst
  simp only [Bool.true_and] at E
  have HS := hideIt (refsame_any (.slice FA a.fs.length fc) (.slice GA b.fs.length gc) a.fs b.fs X2 PA.out.fields PB.out.fields HL.out)
  rw [HD3.out] at HS
  generalize a.fs.length = na at *
  generalize b.fs.length = nb at *
  go_wp2_with fail
  refine HS.out.mono ?_
  rintro e u1 ⟨rfl, hb⟩
  have B3 := hideIt (below_then B2.out hb)
  have QA3 := QA2.out.keep hb QA2.out.lt
  have QB3 := QB.out.keep hb QB.out.lt
  have PA3 := hideIt (PA.out.keep hb)
  have PB3 := hideIt (PB.out.keep hb)
  have m3 := QA3.c2
  have n3 := QB3.c2
  clear hb HS k0 k1 j0 j1
  cases d3
  · go_wp2_with fail
    go_ret
    exact ⟨by rw [E.out]; rfl, B3.out⟩
  simp only [Bool.true_and] at E
  have hv1 := conv_bytes A a.body a.body.length c _ u1 PA3.out.body.bytes rfl
  have hv2 := conv_bytes B b.body b.body.length d _ u1 PB3.out.body.bytes rfl
  have hbb : ((strOf a.body).toList == (strOf b.body).toList) = d4 := by rw [← HD4.out, strOf_toList, strOf_toList]; by_cases h : a.body = b.body <;> simp [h]
  generalize a.body.length = ba at *
  generalize b.body.length = bb at *
  generalize strOf a.body = sa at *
  generalize strOf b.body = sb at *
  go_wp2_with fail
  go_ret
  exact ⟨by rw [E.out]; rfl, B3.out⟩
theorem go_rsame : goFn Tryd.prog 17 = true := by kernel_rfl
theorem go_refrsame : goFn Tryd.prog 18 = true := by kernel_rfl
end Go.Proofs.YtolikoediafkkaaDoor
