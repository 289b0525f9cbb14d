/- Contract of resp.writeHead. And what was RespHead. -/
import Derived.Test.YtolikoediafkkaaDoorRespFacts
import Derived.Test.YtolikoediafkkaaDoorHeadPrint
import Derived.Deep.Cut
import Derived.Handy
namespace Go.Proofs.YtolikoediafkkaaDoor
open Go.ChangeShapes Go.WideShapes Go.ChangeAt Go.RowKit
set_option linter.unusedVariables false
set_option linter.unusedSimpArgs false

def HeadPost (r : RespL) (B g : Nat) (w : World) (e : Ending) (w' : World) : Prop :=
  ∃ k : Nat, e = .returned (.int .u16 (k : Int)) ∧ Below B w w' ∧ (∀ p, badF r.fs = some p → k = (printF p).2) ∧ (badF r.fs = none → k = 0 ∧ WSt B g (linesJ (headR r) ++ crlf) w')
set_option maxRecDepth 8000 in
set_option maxHeartbeats 4000000 in
theorem writeHead_any (r : RespL) (fv : Value) (A : Option Addr) (c g B : Nat) (w : World) (hp : ∀ w', Below B w w' → RespParts fv A c r w') (hT : ∀ w', Below B w w' → PowOk w')
    (hs : reasonL r.status ≠ []) (hf : r.fs.length ≤ 40) (hbd : r.body.length ≤ 4000) (hl : ∀ p ∈ r.fs, p.1.length ≤ 400000 ∧ p.2.length ≤ 400000) (hW : WSt B g [] w) (hB : B ≤ g) :
    Calls Tryd.prog 34 #[respV r fv A c, .func (.func 35) #[.pointer (some ⟨g, 0, none⟩)] #[]] w (HeadPost r B g w) := by
  obtain ⟨FA, fc, rfl, f1, f2, f3, f4⟩ := (hp w (Below.refl _ _)).fields.form
  have hgl : g < w.heap.size := by
    obtain ⟨v, h1, _⟩ := hW
    exact (Array.getElem?_eq_some_iff.1 h1).1
  obtain ⟨n, hn, hn9⟩ := status_nat hs
  obtain ⟨q, hq⟩ : ∃ q, w.heap.size = q := ⟨_, rfl⟩
  obtain ⟨X, hX⟩ : ∃ X, w.alloc (.cells #[.int .i64 r.status, .slice FA r.fs.length fc, .slice A r.body.length c] 25) = X := ⟨_, rfl⟩
  have hbx : Below w.heap.size w X := by rw [← hX]; exact below_new w _
  have hqx : RCell X q (.int .i64 r.status) (.slice FA r.fs.length fc) (.slice A r.body.length c) := by rw [← hX, ← hq]; exact RCell.new w _ _ _
  rw [hn] at hqx
  have BX : Hid (Below B w X) := hideIt (hbx.mono (by omega))
  have QX := hideIt hqx
  have HQL := hideIt hqx.lt
  have HBQ : Hid (B ≤ X.heap.size) := hideIt (by have := hqx.lt; omega)
  have HC0 := hideIt hqx.c0
  have W0 := hideIt (hW.keep hbx)
  have HX := hideIt hX
  have HGQ : Hid (g < q) := hideIt (by rw [← hq]; exact hgl)
  have HPP := hideIt hp
  have HLL := hideIt hl
  have HIT := hideIt (fun (w1 : World) (hg : Below X.heap.size X w1) => itoa_any n (by omega) w1 ((hT X BX.out).keep hg))
  have HIT2 := hideIt (fun (w1 : World) (hb : Below B w w1) => itoa_any r.body.length (by omega) w1 (hT w1 hb))
  have HRE := hideIt (fun w1 => reason_any (n : Int) w1)
  have HFI : Hid (verL ++ [32] ++ digL n ++ [32] ++ reasonL (n : Int) = firstR r.status) := hideIt (by rw [hn]; rfl)
  have HF6 := hideIt (first_fine hs)
  have HD0 := hideIt (doneR_zero r)
  have HDL := hideIt (fun (j : Nat) (h : ∀ y ∈ r.fs.take j, (printF y).2 = 0) => doneR_len hs hf h)
  have HDA := hideIt (doneR_all r)
  have HLN : Hid ((lengLine r.body.length).length ≤ 25) := hideIt (lengLine_len _ hbd)
  have HLE : Hid (lengL ++ [58, 32] ++ digL r.body.length = lengLine r.body.length) := hideIt rfl
  have hz : (digL n).length ≤ 9 := (digL_nine n).2 (by omega)
  have hz2 : (reasonL (n : Int)).length ≤ 60 := by
    have h6 := HF6.out.2.2.1
    rw [← HFI.out] at h6
    simp at h6; omega
  have hz3 : (digL r.body.length).length ≤ 9 := (digL_nine _).2 (by omega)
  unfold respV
  rw [hn] at hX ⊢
  have HX := hideIt hX
  clear hp hT hs hl hW hbx hqx hX f1 f2 f3 f4
  generalize hDG : digL n = DG at *
  generalize hRS : reasonL (n : Int) = RS at *
  generalize hDB : digL r.body.length = DB at *
  have HLD : Hid (verL = verL) := hideIt rfl
  have HDBB : Hid (digL r.body.length = DB) := hideIt hDB
  clear hDG hRS hDB hn
  generalize hnf : r.fs.length = nf at *
  have HNF := hideIt hnf
  clear hnf
  obtain ⟨WF, hWF⟩ : ∃ WF, Value.func (.func 35) #[.pointer (some ⟨g, 0, none⟩)] #[] = WF := ⟨_, rfl⟩
  have HWF := hideIt hWF
  rw [hWF]
  clear hWF
  go_enter Tryd.func34, Tryd.ntmps34
  go_upto_region 1 with fail
  rw [HX.out]
  refine region_tail 10 [Fact.is (WF), Fact.is (.pointer (some ⟨q, 0, none⟩)), Fact.is (.int .i64 ((n : Nat) : Int)), Fact.str (DG), Fact.str (verL ++ [32] ++ DG), Fact.str (verL ++ [32] ++ DG ++ [32]), Fact.is (.pointer (some ⟨q, 0, none⟩)), Fact.is (.int .i64 ((n : Nat) : Int)), Fact.str (RS), Fact.str (verL ++ [32] ++ DG ++ [32] ++ RS)] (by kernel_rfl) (by kernel_rfl) (by kernel_rfl) ⟨fun a w1 m => ?_, fun a w1 m => ?_, fun a w1 m => ?_, fun a w1 m => ?_, fun a w1 m => ?_, fun a w1 m => ?_, fun a w1 m => ?_, fun a w1 m => ?_, fun a w1 m => ?_, fun a w1 m => ?_, trivial⟩ ?_
  · exact ok_move (wanted_none rfl) (.tmp 1) rfl (m.old 1 rfl)
  · exact ok_fieldR0 (wanted_none rfl) (.tmp 2) rfl q 0 (m.old 2 rfl)
  · exact ok_loadI (wanted_none rfl) (.tmp 10) rfl ⟨q, 0, none⟩ _ (m.has 1 10 rfl rfl) ((m.grew.cell (p := ⟨q, 0, none⟩) HQL.out).trans HC0.out)
  · exact ok_fn (wanted_none rfl) _ _ _ rfl _ (map1 (m.has 2 11 rfl rfl)) go_itoa (HIT.out w1 m.grew) (fun e w' ⟨h1, h2⟩ => ⟨_, h1, rfl, h2⟩)
  · exact ok_strcat (wanted_none rfl) _ (.tmp 12) _ rfl _ _ _ (rfl) (m.has 3 12 rfl rfl) (by rw [HLD.out]; simp [verL]; omega) (rfl)
  · exact ok_strcat (wanted_none rfl) (.tmp 13) _ _ rfl _ _ _ (m.has 4 13 rfl rfl) (rfl) (by simp [verL]; omega) (rfl)
  · exact ok_fieldR0 (wanted_none rfl) (.tmp 2) rfl q 0 (m.old 2 rfl)
  · exact ok_loadI (wanted_none rfl) (.tmp 15) rfl ⟨q, 0, none⟩ _ (m.has 6 15 rfl rfl) ((m.grew.cell (p := ⟨q, 0, none⟩) HQL.out).trans HC0.out)
  · exact ok_fn (wanted_none rfl) _ _ _ rfl _ (map1 (m.has 7 16 rfl rfl)) go_reason (HRE.out w1) (fun e w' ⟨h1, h2⟩ => ⟨_, h1, rfl, h2⟩)
  · exact ok_strcat (wanted_none rfl) (.tmp 14) (.tmp 17) _ rfl _ _ _ (m.has 5 14 rfl rfl) (m.has 8 17 rfl rfl) (by simp [verL]; omega) (rfl)
  intro f w9 hg hf
  have e0 : f 0 = WF := hf 0 (by decide)
  have e9 : f 9 = .string (strOf (verL ++ [32] ++ DG ++ [32] ++ RS)) := hf 9 (by decide)
  have B9 := hideIt (below_thenB BX.out HBQ.out hg)
  clear hf
  simp only [List.take, List.drop, putAll, Act.put, List.setIfInBounds_toArray, List.set_cons_succ, List.set_cons_zero]
  rw [e0, e9]
  clear e0 e9
  rw [HFI.out]
  rw [← HWF.out]
  have W9 := hideIt (W0.out.keep hg)
  have Q9 := hideIt (QX.out.keep hg QX.out.lt)
  have L9 := hideIt (line_any B g [] (firstR r.status) w9 W9.out hB (by have := HF6.out.2.2.1; simp; omega))
  clear hg HRE HIT HFI HLD hz hz2
  generalize strOf (firstR r.status) = sf at *
  generalize strOf DG = sd at *
  generalize strOf RS = sr at *
  generalize strOf (verL ++ [32] ++ DG) = s3 at *
  generalize strOf (verL ++ [32] ++ DG ++ [32]) = s4 at *
  go_wp2_with fail
  refine L9.out.mono ?_
  rintro e w10 ⟨rfl, hw, hb, hk⟩
  have W10 : Hid (WSt B g (doneR r 0) w10) := hideIt (by rw [HD0.out]; simpa using hw)
  have B10 : Hid (Below B w w10) := hideIt (B9.out.trans hb)
  have hq10 := hk.resp Q9.out (by have := HGQ.out; omega)
  have q1 := hq10.c1
  have Q10 := hideIt hq10
  clear hw hb hk hq10 L9 W9 Q9 B9
  go_wp2_with fail
  clear q1
  go_loopw [23] (fun iv wr => ∃ j : Nat, j ≤ nf ∧ iv = .int .i64 (j : Int) ∧ WSt B g (doneR r j) wr ∧ Below B w wr ∧ RCell wr q (.int .i64 (n : Int)) (.slice FA nf fc) (.slice A r.body.length c) ∧ (∀ y ∈ r.fs.take j, (printF y).2 = 0)) (fun iv wr => nf - (intOf iv).toNat)
  case atStart => exact ⟨0, by omega, rfl, W10.out, B10.out, Q10.out, by simp⟩
  case round =>
    obtain ⟨j, hj, rfl, hwr, hbr, hqr, hall⟩ := hrel
    have WR := hideIt hwr
    have BR := hideIt hbr
    have QR := hideIt hqr
    have HALL := hideIt hall
    have hdl := HDL.out j hall
    have HWL : Hid (g < wr.heap.size) := hideIt (by obtain ⟨v, h1, _⟩ := hwr; exact (Array.getElem?_eq_some_iff.1 h1).1)
    have HBW : Hid (B ≤ wr.heap.size) := hideIt (by have := HWL.out; omega)
    clear hwr hbr hqr hall
    have hwj : IntKind.i64.wrap ((j : Int) + 1) = (j : Int) + 1 := IntWalk.i64_in _ (by omega)
    by_cases hlt : j < nf
    · have hji : (j : Int) < (nf : Int) := by omega
      obtain ⟨x, hx⟩ : ∃ x, r.fs[j]? = some x := ⟨_, List.getElem?_eq_getElem (by have := HNF.out; omega)⟩
      have hxb := HLL.out x (List.mem_of_getElem? hx)
      obtain ⟨FA', fc', he, _, _, _, hFT⟩ := (HPP.out wr BR.out).fields.form
      obtain ⟨rfl, hh, rfl⟩ := (Value.slice.injEq ..).mp he
      clear hh
      obtain ⟨b, off, rfl, hlt2, hc⟩ := hFT (by have := HNF.out; omega)
      obtain ⟨c1, c2⟩ := hc j x hx
      have HDS := hideIt (doneR_succ r j x hx)
      have HTK : Hid (∀ (h : (printF x).2 = 0), ∀ y ∈ r.fs.take (j + 1), (printF y).2 = 0) := hideIt fun h y hy => by
        obtain ⟨h1, h2⟩ := List.getElem?_eq_some_iff.1 hx
        rw [List.take_succ_eq_append_getElem h1, h2] at hy
        rcases List.mem_append.1 hy with hy | hy
        · exact HALL.out y hy
        · rw [List.mem_singleton.1 hy]; exact h
      have HBAD := hideIt (fun h => badF_at HALL.out hx h)
      rw [show off + 2 * j = off + j * 2 by omega] at c1 c2
      have hbn := below_new wr (.cells #[.string (strOf x.1), .string (strOf x.2)] 41)
      have P1 := hideIt (PCell.new wr x)
      have B1 := hideIt (below_thenB BR.out HBW.out hbn)
      have W1 := hideIt (WR.out.keep hbn)
      have Q1 := hideIt (QR.out.keep hbn QR.out.lt)
      have HPR := hideIt (fun w => print_any x w (by omega) (by omega))
      unfold pairV at HPR
      clear hc hx hbn he hFT
      have hpl := lineP_len x
      have EL : Hid (lineP x = (printF x).1) := hideIt rfl
      by_cases hz : (printF x).2 = 0
      · rw [hz, ← EL.out] at HPR
        have HZ := hideIt hz
        have hlx : (lineP x).length ≤ 2000 := by rw [(lineP_ok hz).1]; exact (lineP_ok hz).2.2
        clear hz
        go_upto_region 5 with fail
        generalize wr.alloc (.cells #[.string (strOf x.1), .string (strOf x.2)] 41) = X1 at *
        generalize wr.heap.size = g1 at *
        have p0 := P1.out.cell0
        have p1 := P1.out.cell1
        go_wp2_with fail
        refine (HPR.out _).mono ?_
        rintro e u1 ⟨rfl, hb⟩
        have HB1 : Hid (B ≤ X1.heap.size) := hideIt (by obtain ⟨v, h1, _⟩ := W1.out; have := (Array.getElem?_eq_some_iff.1 h1).1; omega)
        have B2 := hideIt (below_thenB B1.out HB1.out hb)
        have W2 := hideIt (W1.out.keep hb)
        have Q2 := hideIt (Q1.out.keep hb Q1.out.lt)
        have L2 := hideIt (line_any B g (doneR r j) (lineP x) u1 W2.out hB (by omega))
        clear hb p0 p1 c1 c2 B1 W1 Q1 WR BR QR
        generalize strOf (lineP x) = lx at *
        go_wp2_with fail
        refine L2.out.mono ?_
        rintro e u2 ⟨rfl, hw, hb, hk⟩
        have W3 : Hid (WSt B g (doneR r (j + 1)) u2) := hideIt (by rw [HDS.out]; exact hw)
        have B3 := hideIt (B2.out.trans hb)
        have Q3 := hideIt (hk.resp Q2.out (by have := HGQ.out; omega))
        clear hw hb hk L2 W2 Q2 B2
        go_wp2_with fail
        go_roundw
        case rel => exact ⟨j + 1, by omega, by go_num, W3.out, B3.out, Q3.out, HTK.out HZ.out⟩
        case measure => simp [intOf]; omega
      · have HBD := hideIt (HBAD.out hz)
        have hne : ¬ (((printF x).2 : Nat) : Int) = 0 := by omega
        obtain ⟨ek, hek⟩ : ∃ ek, (printF x).2 = ek := ⟨_, rfl⟩
        have HEK := hideIt hek
        rw [hek] at hne HPR
        clear hz HTK EL hek
        generalize strOf (printF x).1 = es at *
        go_upto_region 5 with fail
        generalize wr.alloc (.cells #[.string (strOf x.1), .string (strOf x.2)] 41) = X1 at *
        generalize wr.heap.size = g1 at *
        have p0 := P1.out.cell0
        have p1 := P1.out.cell1
        go_wp2_with fail
        refine (HPR.out _).mono ?_
        rintro e u1 ⟨rfl, hb⟩
        have HB1 : Hid (B ≤ X1.heap.size) := hideIt (by obtain ⟨v, h1, _⟩ := W1.out; have := (Array.getElem?_eq_some_iff.1 h1).1; omega)
        have B2 := hideIt (below_thenB B1.out HB1.out hb)
        clear hb p0 p1 c1 c2 B1 W1 Q1 WR BR QR
        go_wp2_with fail
        go_ret
        exact ⟨ek, rfl, B2.out, (fun p hp => by rw [HBD.out] at hp; cases hp; exact HEK.out.symm), (fun h => by rw [HBD.out] at h; cases h)⟩
    · obtain rfl : j = nf := by omega
      have hji : ¬ (j : Int) < (j : Int) := by omega
      have HBN : Hid (badF r.fs = none) := hideIt (badF_all (by have := HALL.out; rw [← HNF.out, List.take_length] at this; exact this))
      have HDA2 : Hid (doneR r j ++ (lengLine r.body.length ++ crlf) = linesJ (headR r)) := hideIt HDA.out
      have q2 := QR.out.c2
      have HIB := hideIt (HIT2.out wr BR.out)
      have HQW := hideIt QR.out.lt
      have zdb : (strOf DB).size ≤ 9 := by rw [strOf_size]; exact hz3
      generalize hsd : strOf DB = sdb at *
      have HSD := hideIt hsd
      clear hsd
      go_wp2_with fail
      refine HIB.out.mono ?_
      rintro e u1 ⟨rfl, hb⟩
      have B1 := hideIt (below_thenB BR.out HBW.out hb)
      have W1 := hideIt (WR.out.keep hb)
      have L1 := hideIt (line_any B g (doneR r j) (lengLine r.body.length) u1 W1.out hB (by have := HLN.out; omega))
      clear q2 hb BR WR QR
      have HSL : Hid ((⟨#[67, 111, 110, 116, 101, 110, 116, 45, 76, 101, 110, 103, 116, 104, 58, 32]⟩ : ByteArray) ++ sdb = strOf (lengLine r.body.length)) := hideIt (by rw [← HLE.out, ← HSD.out, ← HDBB.out, ← strOf_append]; rfl)
      go_wp2_with fail
      rw [HSL.out]
      refine L1.out.mono ?_
      rintro e u2 ⟨rfl, hw, hb, hk⟩
      have W2 : Hid (WSt B g (linesJ (headR r)) u2) := hideIt (by rw [← HDA2.out]; exact hw)
      have B2 := hideIt (B1.out.trans hb)
      have L2 := hideIt (line_any B g (linesJ (headR r)) [] u2 W2.out hB (by rw [← HDA2.out]; have := HLN.out; simp [crlf]; omega))
      clear hw hb hk L1 W1 B1
      have HEM : strOf [] = (⟨#[]⟩ : ByteArray) := rfl
      rw [HEM] at L2
      clear HEM
      go_wp2_with fail
      refine L2.out.mono ?_
      rintro e u3 ⟨rfl, hw, hb, hk⟩
      have W3 : Hid (WSt B g (linesJ (headR r) ++ crlf) u3) := hideIt hw
      have B3 := hideIt (B2.out.trans hb)
      clear hw hb hk L2 W2 B2
      go_wp2_with fail
      go_ret
      exact ⟨0, rfl, B3.out, (fun p hp => by rw [HBN.out] at hp; cases hp), (fun _ => ⟨rfl, W3.out⟩)⟩
theorem go_writeHead : goFn Tryd.prog 34 = true := by kernel_rfl
end Go.Proofs.YtolikoediafkkaaDoor

/- Contract of resp.Print. -/
namespace Go.Proofs.YtolikoediafkkaaDoor
open Go.ChangeShapes Go.WideShapes Go.ChangeAt Go.RowKit
set_option linter.unusedVariables false
set_option linter.unusedSimpArgs false

section
variable {ops : Array Oper} {Q : Exit → Act → World → Prop} {o : Oper} {a : Act} {w : World}
theorem ok_nilW (hg : Region.wanted o (yielded ops a.tmps) = true) (x : Operand) (ho : o.op = .nilCheck x) (p : Addr) (hx : a.eval x = .pointer (some p)) : StepOk Tryd.prog ops Q (Fact.is (.pointer (some p))) o a w := by
  refine ok_same hg _ ?_ rfl
  simp only [execOp, ho, hx]
  go_simp
theorem ok_fieldW (hg : Region.wanted o (yielded ops a.tmps) = true) (x : Operand) (ho : o.op = .fieldAddr 67 x 0) (b off : Nat) (h1 : a.eval x = .pointer (some ⟨b, off, none⟩)) : StepOk Tryd.prog ops Q (Fact.is (.pointer (some ⟨b, off, none⟩))) o a w := by
  refine ok_same hg _ ?_ rfl
  simp only [execOp, ho, h1]
  go_simp
end
theorem emptyS {l : List UInt8} (h : l = []) : (strOf l).toList.isEmpty = true := by rw [strOf_toList, h]; rfl
theorem fullS {l : List UInt8} (h : l ≠ []) : (strOf l).toList.isEmpty = false := by rw [strOf_toList, List.isEmpty_eq_false_iff]; exact h
/-- what Print leaves: a row that can be read, and that no older block is -/
def PrintRPost (r : RespL) (w : World) (e : Ending) (w' : World) : Prop :=
  ∃ A' c', e = .returned (.tuple #[.slice A' (printR r).1.length c', .int .u16 ((printR r).2 : Int)]) ∧ PieceOk w' ⟨A', c', (printR r).1⟩ ∧ (∀ k, k < w.heap.size → Apart A' (printR r).1 k) ∧ Below w.heap.size w w'
theorem print_not {r : RespL} {w w' : World} {k : Nat} (h : printR r = ([], k)) (hb : Below w.heap.size w w') : PrintRPost r w (.returned (.tuple #[.slice none 0 0, .int .u16 (k : Int)])) w' := by
  refine ⟨none, 0, by rw [h]; rfl, by rw [h]; exact piece_nil _, ?_, hb⟩
  intro j _ hn ad he
  cases he
set_option maxRecDepth 8000 in
set_option maxHeartbeats 4000000 in
theorem rprint_any (r : RespL) (fv : Value) (A : Option Addr) (c : Nat) (w : World) (hp : RespParts fv A c r w) (hl : r.fs.length ≤ 40 → ∀ p ∈ r.fs, p.1.length ≤ 400000 ∧ p.2.length ≤ 400000) (hT : PowOk w) :
    Calls Tryd.prog 23 #[respV r fv A c] w (PrintRPost r w) := by
  obtain ⟨FA, fc, rfl, f1, f2, f3, f4⟩ := hp.fields.form
  obtain ⟨q, hq⟩ : ∃ q, w.heap.size = q := ⟨_, rfl⟩
  obtain ⟨X, hX⟩ : ∃ X, w.alloc (.cells #[.int .i64 r.status, .slice FA r.fs.length fc, .slice A r.body.length c] 25) = X := ⟨_, rfl⟩
  have hbx : Below w.heap.size w X := by rw [← hX]; exact below_new w _
  have hqx : RCell X q (.int .i64 r.status) (.slice FA r.fs.length fc) (.slice A r.body.length c) := by rw [← hX, ← hq]; exact RCell.new w _ _ _
  have hxs : X.heap.size = q + 1 := by rw [← hX, ← hq]; exact alloc_size w _
  obtain ⟨s, hs⟩ : ∃ s, r.status = s := ⟨_, rfl⟩
  have HRE := hideIt (reason_any s X)
  have BX := hideIt hbx
  have HXS := hideIt hxs
  have HX := hideIt hX
  have HP0 := hideIt hp
  have HT0 := hideIt hT
  have HLL := hideIt hl
  have HS := hideIt hs
  have hbod := hp.body.fits
  have hbod2 := hp.body.most
  simp only at hbod hbod2
  unfold respV
  rw [hs] at hqx hX ⊢
  have HX := hideIt hX
  have QX := hideIt hqx
  have c0 := hqx.c0
  clear hp hl hT hbx hqx hX f3 f4 hxs hs
  by_cases h0 : reasonL s = []
  · have HE : Hid (printR r = ([], 1)) := hideIt (by unfold printR; rw [HS.out, if_pos h0])
    have hem := emptyS h0
    clear h0
    generalize strOf (reasonL s) = R at *
    go_enter Tryd.func23, Tryd.ntmps23
    go_upto_region 1 with fail
    rw [HX.out]
    go_wp2_with fail
    refine HRE.out.mono ?_
    rintro e u1 ⟨rfl, hb⟩
    have B1 := hideIt (below_then BX.out hb)
    clear hb c0
    go_wp2_with fail
    go_ret2
    exact print_not HE.out B1.out
  · have hem := fullS h0
    have HS0 := hideIt h0
    clear h0
    generalize hR : strOf (reasonL s) = R at *
    clear hR
    by_cases h1 : 4000 < r.body.length
    · have HE : Hid (printR r = ([], 3)) := hideIt (by unfold printR; rw [HS.out, if_neg HS0.out, if_pos (Or.inl h1)])
      have h1' : (4000 : Int) < (r.body.length : Int) := by omega
      go_enter Tryd.func23, Tryd.ntmps23
      go_upto_region 1 with fail
      rw [HX.out]
      go_wp2_with fail
      refine HRE.out.mono ?_
      rintro e u1 ⟨rfl, hb⟩
      have B1 := hideIt (below_then BX.out hb)
      have c2 := (QX.out.keep hb QX.out.lt).c2
      clear hb c0
      go_wp2_with fail
      go_ret2
      exact print_not HE.out B1.out
    · by_cases h2 : 40 < r.fs.length
      · have HE : Hid (printR r = ([], 3)) := hideIt (by unfold printR; rw [HS.out, if_neg HS0.out, if_pos (Or.inr h2)])
        have h1' : ¬ (4000 : Int) < (r.body.length : Int) := by omega
        have h2' : (40 : Int) < (r.fs.length : Int) := by omega
        go_enter Tryd.func23, Tryd.ntmps23
        go_upto_region 1 with fail
        rw [HX.out]
        go_wp2_with fail
        refine HRE.out.mono ?_
        rintro e u1 ⟨rfl, hb⟩
        have B1 := hideIt (below_then BX.out hb)
        have Q1 := QX.out.keep hb QX.out.lt
        have c1 := Q1.c1
        have c2 := Q1.c2
        clear hb c0 Q1
        go_wp2_with fail
        go_ret2
        exact print_not HE.out B1.out
      · have HE : Hid ((∀ p, badF r.fs = some p → printR r = ([], (printF p).2)) ∧ (badF r.fs = none → printR r = (textR r, 0))) := hideIt ⟨fun p h => by unfold printR; rw [HS.out, if_neg HS0.out, if_neg (by omega), h], fun h => by unfold printR; rw [HS.out, if_neg HS0.out, if_neg (by omega), h]⟩
        have h1' : ¬ (4000 : Int) < (r.body.length : Int) := by omega
        have h2' : ¬ (40 : Int) < (r.fs.length : Int) := by omega
        have HN1 : Hid (r.body.length ≤ 4000) := hideIt (by omega)
        have HN2 : Hid (r.fs.length ≤ 40) := hideIt (by omega)
        have hmf : ∀ (fn : Fn) (first cap : Array Value) (w : World), (Instr.makeFunc fn first cap).run Tryd.prog w = .ok (.func fn first cap) w := fun _ _ _ _ => rfl
        go_enter Tryd.func23, Tryd.ntmps23
        go_upto_region 1 with fail
        rw [HX.out]
        go_wp2_with fail
        refine HRE.out.mono ?_
        rintro e u1 ⟨rfl, hb⟩
        have B1 := hideIt (below_then BX.out hb)
        have Q1 := QX.out.keep hb QX.out.lt
        have c1 := Q1.c1
        have c2 := Q1.c2
        have HG1 : Hid (q + 1 ≤ u1.heap.size) := hideIt (by have := Q1.lt; omega)
        have QQ := hideIt Q1
        clear hb c0 Q1
        go_upto_region 6 with fail
        have hbn := below_new u1 (.cells #[.slice none 0 0] 67)
        have W2 : Hid (WSt (q + 1) u1.heap.size [] (u1.alloc (.cells #[.slice none 0 0] 67))) := hideIt ⟨_, heap_alloc_new u1 _, ⟨rfl, Or.inl ⟨rfl, rfl⟩⟩⟩
        have B2 := hideIt (below_then B1.out hbn)
        have Q2 := hideIt (QQ.out.keep hbn QQ.out.lt)
        generalize u1.alloc (.cells #[.slice none 0 0] 67) = Y at *
        obtain ⟨g, hg⟩ : ∃ g, u1.heap.size = g := ⟨_, rfl⟩
        rw [hg] at W2 ⊢
        have HGG : Hid (q + 1 ≤ g) := hideIt (by rw [← hg]; exact HG1.out)
        clear hbn c1 c2
        have d0 := Q2.out.c0
        have d1 := Q2.out.c1
        have d2 := Q2.out.c2
        have HWH := hideIt (writeHead_any r (.slice FA r.fs.length fc) A c g (q + 1) Y (fun w' hb => HP0.out.keep (B2.out.trans (hb.mono (by rw [hq]; omega)))) (fun w' hb => HT0.out.keep (B2.out.trans (hb.mono (by rw [hq]; omega)))) (by rw [HS.out]; exact HS0.out) HN2.out HN1.out (HLL.out HN2.out) W2.out HGG.out)
        unfold respV at HWH
        rw [HS.out] at HWH
        go_wp2_with fail
        refine HWH.out.mono ?_
        rintro e u2 ⟨k, rfl, hb, hbad, hnone⟩
        have B3 : Hid (Below w.heap.size w u2) := hideIt (B2.out.trans (hb.mono (by rw [hq]; omega)))
        have Q3 := hideIt (Q2.out.keep hb (by omega))
        clear hb d0 d1 d2 hmf HWH
        cases hbf : badF r.fs with
        | some p =>
          have hk := hbad p hbf
          have HEP := hideIt (HE.out.1 p hbf)
          have hpne : k ≠ 0 := by rw [hk]; exact (badF_some hbf).2
          have hne : ¬ ((k : Nat) : Int) = 0 := by omega
          have HK := hideIt hk
          clear hbad hnone hk hpne hbf
          go_wp2_with fail
          go_ret2
          exact print_not (by rw [HEP.out, HK.out]) B3.out
        | none =>
          obtain ⟨rfl, hw⟩ := hnone hbf
          have HEP := hideIt (HE.out.2 hbf)
          have HTL : Hid ((textR r).length ≤ 90000) := hideIt (text_len (by rw [HE.out.2 hbf]))
          obtain ⟨v, hv1, hv2⟩ := hw
          have VC : Hid (u2.cell? ⟨g, 0, none⟩ = some v) := hideIt (by rw [cell_of_row u2 g 0 _ _ _ hv1]; rfl)
          have VG : Hid (g < u2.heap.size) := hideIt (Array.getElem?_eq_some_iff.1 hv1).1
          have VO := hideIt hv2
          have C2 := hideIt Q3.out.c2
          have QL := hideIt Q3.out.lt
          clear hbad hnone hbf hv1 hv2
          go_upto_region 9 with fail
          refine region_tail 6 [Fact.is (.pointer (some ⟨g, 0, none⟩)), Fact.is (.pointer (some ⟨g, 0, none⟩)), Fact.is (.pointer (some ⟨g, 0, none⟩)), Fact.is (v), Fact.is (.pointer (some ⟨q, 0 + 2, none⟩)), Fact.is (.slice A r.body.length c)] (by kernel_rfl) (by kernel_rfl) (by kernel_rfl) ⟨fun a w1 m => ?_, fun a w1 m => ?_, fun a w1 m => ?_, fun a w1 m => ?_, fun a w1 m => ?_, fun a w1 m => ?_, trivial⟩ ?_
          · exact ok_move (wanted_none rfl) (.tmp 4) rfl (m.old 4 rfl)
          · exact ok_nilW (wanted_none rfl) (.tmp 29) rfl _ (m.has 0 29 rfl rfl)
          · exact ok_fieldW (wanted_none rfl) (.tmp 30) rfl g 0 (m.has 1 30 rfl rfl)
          · exact ok_loadBv (wanted_none rfl) (.tmp 31) rfl ⟨g, 0, none⟩ _ (m.has 2 31 rfl rfl) ((m.grew.cell (p := ⟨g, 0, none⟩) VG.out).trans VC.out)
          · exact ok_fieldR2 (wanted_none rfl) (.tmp 1) rfl q 0 (m.old 1 rfl)
          · exact ok_loadBv (wanted_none rfl) (.tmp 33) rfl ⟨q, 0 + 2, none⟩ _ (m.has 4 33 rfl rfl) ((m.grew.cell (p := ⟨q, 0 + 2, none⟩) QL.out).trans C2.out)
          intro f w9 hg hf
          have e3 : f 3 = v := hf 3 (by decide)
          have e5 : f 5 = .slice A r.body.length c := hf 5 (by decide)
          have B9 := hideIt (below_then B3.out hg)
          clear hf
          simp only [List.take, List.drop, putAll, Act.put, List.setIfInBounds_toArray, List.set_cons_succ, List.set_cons_zero]
          rw [e3, e5]
          clear e3 e5
          have O9 := VO.out.keep hg
          have D9 := HP0.out.body.keep B9.out
          have hq9 : q + 1 ≤ w9.heap.size := by have := hg.size; have := VG.out; have := HGG.out; omega
          refine wpList_app rfl (.tmp 32) (.tmp 34) rfl (q + 1) v _ _ rfl O9 A r.body.length c _ r.body rfl rfl D9.nil D9.bytes (by have := HTL.out; unfold textR at this; simp only [List.length_append] at this; simp only [List.length_append]; omega) hq9 ?_
          intro v4 w4 o4 g4
          have hrow : w4.ownsRow (q + 1) 5 1 v4 (textR r).length (cellsOf (textR r)) := by
            have : (linesJ (headR r) ++ crlf).length + r.body.length = (textR r).length := by unfold textR; simp only [List.length_append]
            rw [this] at o4
            exact o4
          have hlt := World.ownsRow.lt hrow
          have B4 : Hid (Below w.heap.size w w4) := hideIt (B9.out.grown g4 B9.out.size (fun k hk => by have := (World.ownsRow.lt O9 k hk).1; omega))
          obtain ⟨A', c', rfl, _, h3, h4, h5, h6⟩ := own_open hrow
          have HAP : Hid (∀ k, k < w.heap.size → Apart A' (textR r) k) := hideIt fun k hk _ ad he => by
            subst he
            have := (hlt ad.block rfl).1
            omega
          have HK : Hid (PieceOk w4 ⟨A', c', textR r⟩) := hideIt ⟨h6, by simp only; omega, by unfold maxLen at h4; simp only; omega, by have := HTL.out; simp only; omega, h5⟩
          clear o4 g4 O9 D9 hrow hlt h6 hg
          generalize htn : (textR r).length = tn at *
          have HTN := hideIt htn
          clear htn
          go_wp2_with fail
          go_ret2
          exact ⟨A', c', by rw [HEP.out]; show _ = Ending.returned (.tuple #[.slice A' (textR r).length c', .int .u16 ((0 : Nat) : Int)]); rw [HTN.out]; rfl, by rw [HEP.out]; exact HK.out, by rw [HEP.out]; exact HAP.out, B4.out⟩
theorem go_rprint : goFn Tryd.prog 23 = true := by kernel_rfl
end Go.Proofs.YtolikoediafkkaaDoor
