/- Contracts of slices.Equal of pairs, bytes.Equal, http.Same, and the reference's Same of requests; Status. -/
import Derived.Test.YtbojigimldfghaaDoorRefSame
import Derived.Test.YtbojigimldfghaaDoorReqMem
import Derived.Test.YtbojigimldfghaaDoorCmp
import Derived.Deep.Cut
import Derived.Handy
namespace Go.Proofs.YtbojigimldfghaaDoor
open Go.ChangeShapes Go.WideShapes Go.ChangeAt Go.RowKit
set_option linter.unusedVariables false
set_option linter.unusedSimpArgs false

set_option maxRecDepth 8000 in
set_option maxHeartbeats 2000000 in
theorem seq_any (v u : Value) (ps qs : List PairL) (w : World) (hp : PairsV v ps w) (hq : PairsV u qs w) (hl : ps.length ≤ 1000000) :
    Calls Tryd.prog 33 #[v, u] w fun e w' => e = .returned (.bool (decide (ps = qs))) ∧ Below w.heap.size w w' := by
  obtain ⟨A, c, rfl, hc1, hc2, hc3, HA⟩ := hp.form
  obtain ⟨B, d, rfl, hd1, hd2, hd3, HB⟩ := hq.form
  have HPA := hideIt HA
  have HPB := hideIt HB
  clear hp hq HA HB hc3 hd3
  by_cases hlen : ps.length = qs.length
  · have HL := hideIt hlen
    have HR : Hid (ps.length = qs.length → ps = qs ↔ ps.take ps.length = qs.take ps.length) := hideIt ⟨fun h => by have := h hlen; rw [this], fun h _ => by rw [List.take_length, hlen, List.take_length] at h; exact h⟩
    rw [← hlen] at hd1 ⊢
    clear hlen
    obtain ⟨R, hR⟩ : ∃ R, decide (ps = qs) = R := ⟨_, rfl⟩
    rw [hR]
    have HRR := hideIt hR
    clear hR
    go_enter Tryd.func33, Tryd.ntmps33
    go_wp2
    go_loopw [13] (fun i wr => ∃ j : Nat, j ≤ ps.length ∧ i = .int .i64 (j : Int) ∧ ps.take j = qs.take j ∧ Below w.heap.size w wr) (fun i wr => ps.length - (intOf i).toNat)
    case atStart => exact ⟨0, by omega, rfl, rfl, Below.refl _ _⟩
    case round =>
      obtain ⟨j, hj, rfl, ht, hb⟩ := hrel
      have HT := hideIt ht
      have HBW := hideIt hb
      clear ht hb
      have hwj : IntKind.i64.wrap ((j : Int) + 1) = (j : Int) + 1 := IntWalk.i64_in _ (by omega)
      by_cases hlt : j < ps.length
      · have hlt' : (j : Int) < (ps.length : Int) := by omega
        obtain ⟨x, hx⟩ : ∃ x, ps[j]? = some x := ⟨_, List.getElem?_eq_getElem hlt⟩
        obtain ⟨y, hy⟩ : ∃ y, qs[j]? = some y := ⟨_, List.getElem?_eq_getElem (by have := HL.out; omega)⟩
        obtain ⟨a, oa, rfl, la, ka⟩ := (HPA.out.keep HBW.out) (by omega)
        obtain ⟨b, ob, rfl, lb, kb⟩ := (HPB.out.keep HBW.out) (by have := HL.out; omega)
        obtain ⟨a1, a2⟩ := ka j x hx
        obtain ⟨b1, b2⟩ := kb j y hy
        have HTA := hideIt (take_all HT.out hx hy)
        clear ka kb hx hy la lb
        rw [show oa + 2 * j = oa + j * 2 by omega] at a1 a2
        rw [show ob + 2 * j = ob + j * 2 by omega] at b1 b2
        by_cases hxy : x = y
        · subst hxy
          have HT2 := hideIt (HTA.out.1 rfl)
          go_wp2_with fail
          go_region
          go_wp2_with fail
          go_roundw
          case rel => exact ⟨j + 1, by omega, by go_num, HT2.out, HBW.out.drew⟩
          case measure => simp [intOf]; omega
        · have HF : Hid (R = false) := hideIt (by rw [← HRR.out]; exact decide_eq_false fun e => hxy (HTA.out.2 (by rw [e])))
          obtain ⟨x1, x2⟩ := x
          obtain ⟨y1, y2⟩ := y
          simp only at a1 a2 b1 b2
          by_cases h1 : x1 = y1
          · subst h1
            have hs : ¬ (strOf x2).toList = (strOf y2).toList := by rw [strOf_toList, strOf_toList]; exact fun e => hxy (by rw [e])
            clear hxy
            go_wp2_with fail
            go_region
            go_wp2_with fail
            go_ret
            exact ⟨by rw [HF.out]; rfl, HBW.out.drew⟩
          · have hs : ¬ (strOf x1).toList = (strOf y1).toList := by rw [strOf_toList, strOf_toList]; exact h1
            clear hxy
            go_wp2_with fail
            go_region
            go_wp2_with fail
            go_ret
            exact ⟨by rw [HF.out]; rfl, HBW.out.drew⟩
      · obtain rfl : j = ps.length := by omega
        have hlt' : ¬ (ps.length : Int) < (ps.length : Int) := by omega
        have HF : Hid (R = true) := hideIt (by
          rw [← HRR.out]
          have h1 := HT.out
          have h2 := HL.out
          refine decide_eq_true ?_
          rw [List.take_length] at h1
          rw [h1, h2, List.take_length])
        go_wp2_with fail
        go_ret
        exact ⟨by rw [HF.out]; rfl, HBW.out⟩
  · have e : decide (ps = qs) = false := decide_eq_false fun e => hlen (by rw [e])
    rw [e]
    have hne : ((ps.length : Int) == (qs.length : Int)) = false := by rw [beq_eq_false_iff_ne]; omega
    clear e hlen
    go_enter Tryd.func33, Tryd.ntmps33
    go_wp2
    go_ret
    exact ⟨rfl, Below.refl _ _⟩
def sameQ (a b : ReqL) : Bool := decide (a.m = b.m) && (decide (a.p = b.p) && (decide (a.fs = b.fs) && decide (a.body = b.body)))
theorem sameQ_refl (a : ReqL) : sameQ a a = true := by simp [sameQ]
theorem sameQ_iff (a b : ReqL) : sameQ a b = true ↔ a = b := by
  cases a; cases b
  simp [sameQ]
set_option maxHeartbeats 1000000 in
theorem beq_any (A B : Option Addr) (x y : List UInt8) (c d : Nat) (w : World) (hx : PieceOk w ⟨A, c, x⟩) (hy : PieceOk w ⟨B, d, y⟩) :
    Calls Tryd.prog 34 #[.slice A x.length c, .slice B y.length d] w fun e w' => e = .returned (.bool (decide (x = y))) ∧ w = w' := by
  have h1 := conv_bytes A x x.length c _ w hx.bytes rfl
  have h2 := conv_bytes B y y.length d _ w hy.bytes rfl
  have hq : ((strOf x).toList == (strOf y).toList) = decide (x = y) := by rw [strOf_toList, strOf_toList]; by_cases h : x = y <;> simp [h]
  generalize decide (x = y) = b at *
  generalize strOf x = sx at *
  generalize strOf y = sy at *
  generalize x.length = n at *
  generalize y.length = m at *
  clear hx hy
  go_enter Tryd.func34, Tryd.ntmps34
  go_wp2
  go_ret
  exact ⟨rfl, rfl⟩
set_option maxRecDepth 8000 in
set_option maxHeartbeats 4000000 in
theorem same4_any (a b : ReqL) (fv gv : Value) (A B : Option Addr) (c d : Nat) (w : World) (ha : ReqParts fv A c a w) (hb : ReqParts gv B d b w) (hl : a.fs.length ≤ 1000000) :
    Calls Tryd.prog 19 #[reqV a fv A c, reqV b gv B d] w fun e w' => e = .returned (.bool (sameQ a b)) ∧ Below w.heap.size w w' := by
  obtain ⟨FA, fc, rfl, f1, f2, f3, f4⟩ := ha.fields.form
  obtain ⟨GA, gc, rfl, g1, g2, g3, g4⟩ := hb.fields.form
  unfold reqV
  have QA := hideIt (QCell.new w (.string (strOf a.m)) (.string (strOf a.p)) (.slice FA a.fs.length fc) (.slice A a.body.length c))
  have hs : (w.alloc (.cells #[.string (strOf a.m), .string (strOf a.p), .slice FA a.fs.length fc, .slice A a.body.length c] 33)).heap.size = w.heap.size + 1 := alloc_size _ _
  obtain ⟨X1, hX1⟩ : ∃ X, w.alloc (.cells #[.string (strOf a.m), .string (strOf a.p), .slice FA a.fs.length fc, .slice A a.body.length c] 33) = X := ⟨_, rfl⟩
  have b1 : Below w.heap.size w X1 := by rw [← hX1]; exact below_new w _
  rw [hX1] at QA hs
  obtain ⟨X2, hX2⟩ : ∃ X, X1.alloc (.cells #[.string (strOf b.m), .string (strOf b.p), .slice GA b.fs.length gc, .slice B b.body.length d] 33) = X := ⟨_, rfl⟩
  have b2 : Below X1.heap.size X1 X2 := by rw [← hX2]; exact below_new X1 _
  have QB0 : QCell X2 (w.heap.size + 1) (.string (strOf b.m)) (.string (strOf b.p)) (.slice GA b.fs.length gc) (.slice B b.body.length d) := by rw [← hX2, ← hs]; exact QCell.new X1 _ _ _ _
  have QA2 := hideIt (QA.out.keep b2 QA.out.lt)
  have QB := hideIt QB0
  have B2 := hideIt (below_then b1 b2)
  have PA := hideIt (ha.keep B2.out)
  have PB := hideIt (hb.keep B2.out)
  have HX : Hid ((w.alloc (.cells #[.string (strOf a.m), .string (strOf a.p), .slice FA a.fs.length fc, .slice A a.body.length c] 33)).alloc (.cells #[.string (strOf b.m), .string (strOf b.p), .slice GA b.fs.length gc, .slice B b.body.length d] 33) = X2) := hideIt (by rw [hX1]; exact hX2)
  have HL := hideIt hl
  have hm : ((strOf a.m).toList == (strOf b.m).toList) = decide (a.m = b.m) := by rw [strOf_toList, strOf_toList]; by_cases h : a.m = b.m <;> simp [h]
  have hpp : ((strOf a.p).toList == (strOf b.p).toList) = decide (a.p = b.p) := by rw [strOf_toList, strOf_toList]; by_cases h : a.p = b.p <;> simp [h]
  have E : Hid (sameQ a b = (decide (a.m = b.m) && (decide (a.p = b.p) && (decide (a.fs = b.fs) && decide (a.body = b.body))))) := hideIt rfl
  obtain ⟨R, hR⟩ : ∃ R, sameQ a b = R := ⟨_, rfl⟩
  rw [hR] at E ⊢
  clear hR ha hb b1 b2 QB0 QA hX1 hX2 f1 f2 f3 f4 g1 g2 g3 g4 hs hl
  generalize hd3 : decide (a.fs = b.fs) = d3 at *
  generalize hd4 : decide (a.body = b.body) = d4 at *
  have HD3 := hideIt hd3
  have HD4 := hideIt hd4
  clear hd3 hd4
  go_enter Tryd.func19, Tryd.ntmps19
  go_upto_region 1 with fail
  rw [HX.out]
  have k0 := QA2.out.c0
  have k1 := QA2.out.c1
  have k2 := QA2.out.c2
  have j0 := QB.out.c0
  have j1 := QB.out.c1
  have j2 := QB.out.c2
  cases h1 : decide (a.m = b.m)
  · rw [h1] at hm E
    clear h1
    go_wp2_with fail
    go_ret
    exact ⟨by rw [E.out]; rfl, B2.out⟩
  rw [h1] at hm E
  clear h1
  cases h2 : decide (a.p = b.p)
  · rw [h2] at hpp E
    clear h2
    go_wp2_with fail
    go_ret
    exact ⟨by rw [E.out]; rfl, B2.out⟩
  rw [h2] at hpp E
  clear h2
  simp only [Bool.true_and] at E
  have HS := hideIt (seq_any (.slice FA a.fs.length fc) (.slice GA b.fs.length gc) a.fs b.fs X2 PA.out.fields PB.out.fields HL.out)
  rw [HD3.out] at HS
  generalize a.fs.length = na at *
  generalize b.fs.length = nb at *
  go_wp2_with fail
  refine HS.out.mono ?_
  rintro e u1 ⟨rfl, hb⟩
  have B3 := hideIt (below_then B2.out hb)
  have QA3 := QA2.out.keep hb QA2.out.lt
  have QB3 := QB.out.keep hb QB.out.lt
  have PA3 := hideIt (PA.out.keep hb)
  have PB3 := hideIt (PB.out.keep hb)
  have m3 := QA3.c3
  have n3 := QB3.c3
  clear hb HS k0 k1 k2 j0 j1 j2
  cases d3
  · go_wp2_with fail
    go_ret
    exact ⟨by rw [E.out]; rfl, B3.out⟩
  simp only [Bool.true_and] at E
  have HB := hideIt (beq_any A B a.body b.body c d u1 PA3.out.body PB3.out.body)
  rw [HD4.out] at HB
  generalize a.body.length = ba at *
  generalize b.body.length = bb at *
  go_wp2_with fail
  refine HB.out.mono ?_
  rintro e u2 ⟨rfl, rfl⟩
  go_wp2_with fail
  go_ret
  exact ⟨by rw [E.out]; rfl, B3.out⟩
set_option maxRecDepth 8000 in
set_option maxHeartbeats 4000000 in
theorem refsame4_any (a b : ReqL) (fv gv : Value) (A B : Option Addr) (c d : Nat) (w : World) (ha : ReqParts fv A c a w) (hb : ReqParts gv B d b w) (hl : a.fs.length ≤ 1000000) :
    Calls Tryd.prog 20 #[reqV a fv A c, reqV b gv B d] w fun e w' => e = .returned (.bool (sameQ a b)) ∧ Below w.heap.size w w' := by
  obtain ⟨FA, fc, rfl, f1, f2, f3, f4⟩ := ha.fields.form
  obtain ⟨GA, gc, rfl, g1, g2, g3, g4⟩ := hb.fields.form
  unfold reqV
  have QA := hideIt (QCell.new w (.string (strOf a.m)) (.string (strOf a.p)) (.slice FA a.fs.length fc) (.slice A a.body.length c))
  have hs : (w.alloc (.cells #[.string (strOf a.m), .string (strOf a.p), .slice FA a.fs.length fc, .slice A a.body.length c] 33)).heap.size = w.heap.size + 1 := alloc_size _ _
  obtain ⟨X1, hX1⟩ : ∃ X, w.alloc (.cells #[.string (strOf a.m), .string (strOf a.p), .slice FA a.fs.length fc, .slice A a.body.length c] 33) = X := ⟨_, rfl⟩
  have b1 : Below w.heap.size w X1 := by rw [← hX1]; exact below_new w _
  rw [hX1] at QA hs
  obtain ⟨X2, hX2⟩ : ∃ X, X1.alloc (.cells #[.string (strOf b.m), .string (strOf b.p), .slice GA b.fs.length gc, .slice B b.body.length d] 33) = X := ⟨_, rfl⟩
  have b2 : Below X1.heap.size X1 X2 := by rw [← hX2]; exact below_new X1 _
  have QB0 : QCell X2 (w.heap.size + 1) (.string (strOf b.m)) (.string (strOf b.p)) (.slice GA b.fs.length gc) (.slice B b.body.length d) := by rw [← hX2, ← hs]; exact QCell.new X1 _ _ _ _
  have QA2 := hideIt (QA.out.keep b2 QA.out.lt)
  have QB := hideIt QB0
  have B2 := hideIt (below_then b1 b2)
  have PA := hideIt (ha.keep B2.out)
  have PB := hideIt (hb.keep B2.out)
  have HX : Hid ((w.alloc (.cells #[.string (strOf a.m), .string (strOf a.p), .slice FA a.fs.length fc, .slice A a.body.length c] 33)).alloc (.cells #[.string (strOf b.m), .string (strOf b.p), .slice GA b.fs.length gc, .slice B b.body.length d] 33) = X2) := hideIt (by rw [hX1]; exact hX2)
  have HL := hideIt hl
  have hm : ((strOf a.m).toList == (strOf b.m).toList) = decide (a.m = b.m) := by rw [strOf_toList, strOf_toList]; by_cases h : a.m = b.m <;> simp [h]
  have hpp : ((strOf a.p).toList == (strOf b.p).toList) = decide (a.p = b.p) := by rw [strOf_toList, strOf_toList]; by_cases h : a.p = b.p <;> simp [h]
  have E : Hid (sameQ a b = (decide (a.m = b.m) && (decide (a.p = b.p) && (decide (a.fs = b.fs) && decide (a.body = b.body))))) := hideIt rfl
  obtain ⟨R, hR⟩ : ∃ R, sameQ a b = R := ⟨_, rfl⟩
  rw [hR] at E ⊢
  clear hR ha hb b1 b2 QB0 QA hX1 hX2 f1 f2 f3 f4 g1 g2 g3 g4 hs hl
  generalize hd3 : decide (a.fs = b.fs) = d3 at *
  generalize hd4 : decide (a.body = b.body) = d4 at *
  have HD3 := hideIt hd3
  have HD4 := hideIt hd4
  clear hd3 hd4
  go_enter Tryd.func20, Tryd.ntmps20
  go_upto_region 1 with fail
  rw [HX.out]
  have k0 := QA2.out.c0
  have k1 := QA2.out.c1
  have k2 := QA2.out.c2
  have j0 := QB.out.c0
  have j1 := QB.out.c1
  have j2 := QB.out.c2
  cases h1 : decide (a.m = b.m)
  · rw [h1] at hm E
    clear h1
    go_wp2_with fail
    go_ret
    exact ⟨by rw [E.out]; rfl, B2.out⟩
  rw [h1] at hm E
  clear h1
  cases h2 : decide (a.p = b.p)
  · rw [h2] at hpp E
    clear h2
    go_wp2_with fail
    go_ret
    exact ⟨by rw [E.out]; rfl, B2.out⟩
  rw [h2] at hpp E
  clear h2
  simp only [Bool.true_and] at E
  have HS := hideIt (refsame_any (.slice FA a.fs.length fc) (.slice GA b.fs.length gc) a.fs b.fs X2 PA.out.fields PB.out.fields HL.out)
  rw [HD3.out] at HS
  generalize a.fs.length = na at *
  generalize b.fs.length = nb at *
  go_wp2_with fail
  refine HS.out.mono ?_
  rintro e u1 ⟨rfl, hb⟩
  have B3 := hideIt (below_then B2.out hb)
  have QA3 := QA2.out.keep hb QA2.out.lt
  have QB3 := QB.out.keep hb QB.out.lt
  have PA3 := hideIt (PA.out.keep hb)
  have PB3 := hideIt (PB.out.keep hb)
  have m3 := QA3.c3
  have n3 := QB3.c3
  clear hb HS k0 k1 k2 j0 j1 j2
  cases d3
  · go_wp2_with fail
    go_ret
    exact ⟨by rw [E.out]; rfl, B3.out⟩
  simp only [Bool.true_and] at E
  have hv1 := conv_bytes A a.body a.body.length c _ u1 PA3.out.body.bytes rfl
  have hv2 := conv_bytes B b.body b.body.length d _ u1 PB3.out.body.bytes rfl
  have hbb : ((strOf a.body).toList == (strOf b.body).toList) = d4 := by rw [← HD4.out, strOf_toList, strOf_toList]; by_cases h : a.body = b.body <;> simp [h]
  generalize a.body.length = ba at *
  generalize b.body.length = bb at *
  generalize strOf a.body = sa at *
  generalize strOf b.body = sb at *
  go_wp2_with fail
  go_ret
  exact ⟨by rw [E.out]; rfl, B3.out⟩
/-- what is answered to an error -/
def statI (x : Int) : Int := if x = 0 then 200 else if x = 3 then 431 else if x = 13 then 413 else 400
set_option maxHeartbeats 1000000 in
theorem status_any (x : Int) (w : World) : Calls Tryd.prog 14 #[.int .u16 x] w fun e w' => e = .returned (.int .i64 (statI x)) ∧ w = w' := by
  by_cases h0 : x = 0
  · subst h0
    go_enter Tryd.func14, Tryd.ntmps14
    go_wp2
    go_ret
    exact ⟨rfl, rfl⟩
  have n0 : (x == 0) = false := by rw [beq_eq_false_iff_ne]; exact h0
  by_cases h3 : x = 3
  · subst h3
    go_enter Tryd.func14, Tryd.ntmps14
    go_wp2
    go_ret
    exact ⟨rfl, rfl⟩
  have n3 : (x == 3) = false := by rw [beq_eq_false_iff_ne]; exact h3
  by_cases h13 : x = 13
  · subst h13
    go_enter Tryd.func14, Tryd.ntmps14
    go_wp2
    go_ret
    exact ⟨rfl, rfl⟩
  have n13 : (x == 13) = false := by rw [beq_eq_false_iff_ne]; exact h13
  have E : Hid (statI x = 400) := hideIt (by unfold statI; rw [if_neg h0, if_neg h3, if_neg h13])
  clear h0 h3 h13
  go_enter Tryd.func14, Tryd.ntmps14
  go_wp2
  go_ret
  exact ⟨by rw [E.out]; rfl, rfl⟩
set_option maxHeartbeats 1000000 in
theorem refstatus_any (x : Int) (w : World) : Calls Tryd.prog 15 #[.int .i64 x] w fun e w' => e = .returned (.int .i64 (statI x)) ∧ w = w' := by
  by_cases h0 : x = 0
  · subst h0
    go_enter Tryd.func15, Tryd.ntmps15
    go_wp2
    go_ret
    exact ⟨rfl, rfl⟩
  have n0 : (x == 0) = false := by rw [beq_eq_false_iff_ne]; exact h0
  by_cases h3 : x = 3
  · subst h3
    go_enter Tryd.func15, Tryd.ntmps15
    go_wp2
    go_ret
    exact ⟨rfl, rfl⟩
  have n3 : (x == 3) = false := by rw [beq_eq_false_iff_ne]; exact h3
  by_cases h13 : x = 13
  · subst h13
    go_enter Tryd.func15, Tryd.ntmps15
    go_wp2
    go_ret
    exact ⟨rfl, rfl⟩
  have n13 : (x == 13) = false := by rw [beq_eq_false_iff_ne]; exact h13
  have E : Hid (statI x = 400) := hideIt (by unfold statI; rw [if_neg h0, if_neg h3, if_neg h13])
  clear h0 h3 h13
  go_enter Tryd.func15, Tryd.ntmps15
  go_wp2
  go_ret
  exact ⟨by rw [E.out]; rfl, rfl⟩
end Go.Proofs.YtbojigimldfghaaDoor
