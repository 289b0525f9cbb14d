/- Contract of wicketmanref09.Print. -/
import Derived.Test.YtbojigimldfghaaDoorHttpPrint
import Derived.Test.YtbojigimldfghaaDoorRefHttpParse
import Derived.Test.YtbojigimldfghaaDoorRefHeadField
import Derived.Test.YtbojigimldfghaaDoorStrBytes
import Derived.Deep.Cut
namespace Go.Proofs.YtbojigimldfghaaDoor
open Go.ChangeShapes Go.WideShapes Go.ChangeAt Go.RowKit
set_option linter.unusedVariables false
set_option linter.unusedSimpArgs false

/-- what the reference's Print answers -/
def RefPrintPost (r : ReqL) (w : World) (e : Ending) (w' : World) : Prop :=
  ∃ v, e = .returned (.tuple #[v, .int .i64 (kindQ r : Int)]) ∧ (mayQ r = true → ∃ A c, v = .slice A (textQ r).length c ∧ PieceOk w' ⟨A, c, textQ r⟩) ∧ (mayQ r = false → v = .slice none 0 0) ∧ Below w.heap.size w w'
theorem first_str2 (m p : List UInt8) : strOf m ++ ⟨#[32]⟩ ++ strOf p ++ ⟨#[32, 72, 84, 84, 80, 47, 49, 46, 49, 13, 10]⟩ = strOf (firstT m p ++ crlf) := by
  rw [show (⟨#[32]⟩ : ByteArray) = strOf [32] from rfl, show (⟨#[32, 72, 84, 84, 80, 47, 49, 46, 49, 13, 10]⟩ : ByteArray) = strOf ([32] ++ verL ++ crlf) from rfl, strOf_append, strOf_append, strOf_append]
  congr 1
  simp [firstT]
set_option maxRecDepth 8000 in
set_option maxHeartbeats 4000000 in
theorem refhttpprint_any (r : ReqL) (fv : Value) (A : Option Addr) (c : Nat) (w : World) (hp : ReqParts fv A c r w) (hB : r.m.length + r.p.length + r.body.length + bulkQ r.fs ≤ 20000) :
    Calls Tryd.prog 32 #[reqV r fv A c] w (RefPrintPost r w) := by
  obtain ⟨FA, fc, rfl, f1, f2, f3, f4⟩ := hp.fields.form
  have HP0 := hideIt hp
  have hln := bulkQ_len r.fs
  have hd0 := doneT_len r 0
  have ES0 : Hid (strOf r.m ++ ⟨#[32]⟩ ++ strOf r.p ++ ⟨#[32, 72, 84, 84, 80, 47, 49, 46, 49, 13, 10]⟩ = strOf (doneT r 0)) := hideIt (by rw [doneT_zero]; exact first_str2 _ _)
  obtain ⟨X, hX⟩ : ∃ X, w.alloc (.cells #[.string (strOf r.m), .string (strOf r.p), .slice FA r.fs.length fc, .slice A r.body.length c] 33) = X := ⟨_, rfl⟩
  have hbx : Below w.heap.size w X := by rw [← hX]; exact below_new w _
  have hqx : QCell X w.heap.size (.string (strOf r.m)) (.string (strOf r.p)) (.slice FA r.fs.length fc) (.slice A r.body.length c) := by rw [← hX]; exact QCell.new w _ _ _ _
  have q0 := hqx.c0
  have q1 := hqx.c1
  have BX := hideIt hbx
  have QX := hideIt hqx
  have FT := hideIt (f4.keep hbx)
  have PX := hideIt (hp.keep hbx)
  have HX := hideIt hX
  have zm : (strOf r.m).size ≤ 20000 := by rw [strOf_size]; omega
  have zp : (strOf r.p).size ≤ 20000 := by rw [strOf_size]; omega
  have GX : Hid (w.heap.size < X.heap.size) := hideIt hqx.lt
  unfold reqV
  clear hp f1 f2 f3 f4 hX hbx hqx
  generalize hm1 : strOf r.m = sm at *
  generalize hp1 : strOf r.p = spp at *
  have HM1 := hideIt hm1
  have HP1 := hideIt hp1
  clear hm1 hp1
  generalize hnf : r.fs.length = nf at *
  have HNF := hideIt hnf
  clear hnf
  go_enter Tryd.func32, Tryd.ntmps32
  go_upto_region 1 with fail
  rw [HX.out]
  go_wp2_with fail
  rw [ES0.out]
  clear q0 q1
  go_loopw [4, 5] (fun sv iv wr => ∃ j : Nat, j ≤ nf ∧ iv = .int .i64 (j : Int) ∧ sv = .string (strOf (doneT r j)) ∧ Below X.heap.size X wr) (fun sv iv wr => nf - (intOf iv).toNat)
  case atStart => exact ⟨0, by omega, rfl, rfl, Below.refl _ _⟩
  case round =>
    obtain ⟨j, hj, rfl, rfl, hbr⟩ := hrel
    have BR := hideIt hbr
    have q2 := (QX.out.keep hbr GX.out).c2
    clear hbr
    have hdl := doneT_len r j
    have hwj : IntKind.i64.wrap ((j : Int) + 1) = (j : Int) + 1 := IntWalk.i64_in _ (by omega)
    have zs : (strOf (doneT r j)).size ≤ 100000 := by rw [strOf_size]; omega
    by_cases hlt : j < nf
    · have hji : (j : Int) < (nf : Int) := by omega
      obtain ⟨x, hx⟩ : ∃ x, r.fs[j]? = some x := ⟨_, List.getElem?_eq_getElem (by have := HNF.out; omega)⟩
      have hxb := bulkQ_each r.fs x (List.mem_of_getElem? hx)
      obtain ⟨b, off, rfl, hlt2, hc⟩ := (FT.out.keep BR.out) (by have := HNF.out; omega)
      obtain ⟨c1, c2⟩ := hc j x hx
      have HDS := doneT_succ r j x hx
      rw [show off + 2 * j = off + j * 2 by omega] at c1 c2
      have HPR := hideIt (fun w => refprint_any x w (by omega) (by omega))
      unfold pairV at HPR
      have hpl := lineP_len x
      have zl : (strOf (printF x).1).size ≤ 50000 := by rw [strOf_size]; have : (printF x).1.length ≤ x.1.length + x.2.length + 2 := hpl; omega
      have ES : Hid (strOf (doneT r j) ++ strOf (printF x).1 ++ (⟨#[13, 10]⟩ : ByteArray) = strOf (doneT r (j + 1))) := hideIt (by
        rw [HDS, show (⟨#[13, 10]⟩ : ByteArray) = strOf crlf from rfl, strOf_append, strOf_append, List.append_assoc]; rfl)
      clear hc hx HDS hpl
      generalize strOf (printF x).1 = es at *
      generalize (printF x).2 = ek at *
      generalize hs0 : strOf (doneT r j) = s0 at *
      clear hs0
      go_wp2_with fail
      refine (HPR.out _).mono ?_
      rintro e u1 ⟨rfl, hb⟩
      have B1 := hideIt (below_then BR.out hb)
      clear hb
      go_wp2_with fail
      rw [ES.out]
      go_roundw
      case rel => exact ⟨j + 1, by omega, by go_num, rfl, B1.out⟩
      case measure => simp [intOf]; omega
    · obtain rfl : j = nf := by omega
      have hji : ¬ (j : Int) < (j : Int) := by omega
      have HDA := doneT_all r
      rw [HNF.out] at HDA
      have htl : (textQ r).length ≤ 90000 := by rw [← HDA]; simp [crlf]; omega
      have q3 := (QX.out.keep BR.out GX.out).c3
      have hbd := HP0.out.body.keep (below_then BX.out BR.out)
      have hcb := conv_bytes A r.body r.body.length c _ wr hbd.bytes rfl
      have zb : (strOf r.body).size ≤ 20000 := by rw [strOf_size]; omega
      have ET : Hid (strOf (doneT r j) ++ (⟨#[13, 10]⟩ : ByteArray) ++ strOf r.body = strOf (textQ r)) := hideIt (by
        rw [← HDA, show (⟨#[13, 10]⟩ : ByteArray) = strOf crlf from rfl, strOf_append, strOf_append])
      have BD := hideIt hbd
      clear hbd HDA
      obtain ⟨d1, u1, hcv, hp1, hb1⟩ := conv_str wr (textQ r) (by omega)
      have hcv0 := hcv
      rw [← ET.out] at hcv
      have HP := hideIt (refparse_any _ (textQ r) _ d1 u1 hp1 rfl (by omega))
      have hmayd : mayQ r = (decide ((reqL (textQ r)).2 = 0) && sameQ (reqL (textQ r)).1 r) := rfl
      have hfew := req_few (textQ r)
      obtain ⟨R, hR⟩ : ∃ R, reqL (textQ r) = R := ⟨_, rfl⟩
      rw [hR] at HP hmayd hfew
      have HMD := hideIt hmayd
      have HFW := hideIt hfew
      have B1 := hideIt (below_then BR.out hb1)
      clear hR hmayd hfew hp1 hb1 hcv0
      generalize htt : textQ r = T at *
      have HTT := hideIt htt
      have HTS := hideIt htl
      clear htt htl
      generalize hntl : T.length = tl at *
      have HTL := hideIt hntl
      clear hntl
      generalize strOf (doneT r j) = s0 at *
      generalize hsb : strOf r.body = sb at *
      have HSB := hideIt hsb
      clear hsb
      generalize hrb : r.body.length = rb at *
      have HRB := hideIt hrb
      clear hrb
      go_wp2_with fail
      refine HP.out.mono ?_
      rintro e u2 ⟨gv, C, cc, rfl, hparts, hb⟩
      obtain ⟨GA, gc, rfl, _⟩ := hparts.fields.form
      have hbn := below_new u2 (.cells #[.string (strOf R.1.m), .string (strOf R.1.p), .slice GA R.1.fs.length gc, .slice C R.1.body.length cc] 33)
      have B6 := hideIt (below_then (below_then B1.out hb) hbn)
      have Q6 := hideIt (QCell.new u2 (.string (strOf R.1.m)) (.string (strOf R.1.p)) (.slice GA R.1.fs.length gc) (.slice C R.1.body.length cc))
      have P6 := hideIt (hparts.keep hbn)
      clear hb hbn hparts HP B1 hcv hcb q3
      rw [ET.out]
      unfold reqV
      go_upto_region 9 with fail
      generalize u2.alloc (.cells #[.string (strOf R.1.m), .string (strOf R.1.p), .slice GA R.1.fs.length gc, .slice C R.1.body.length cc] 33) = Y at *
      generalize u2.heap.size = g7 at *
      by_cases hz : R.2 = 0
      · rw [hz]
        have hma : Hid (mayQ r = sameQ R.1 r) := hideIt (by rw [HMD.out, decide_eq_true hz]; rfl)
        have QB := hideIt (QX.out.keep B6.out GX.out)
        have y0 := Q6.out.c0
        have y1 := Q6.out.c1
        have y2 := Q6.out.c2
        have y3 := Q6.out.c3
        have z0 := QB.out.c0
        have z1 := QB.out.c1
        have z2 := QB.out.c2
        have z3 := QB.out.c3
        have HSQ := refsame4_any R.1 r (.slice GA R.1.fs.length gc) (.slice FA j fc) C A cc c Y P6.out (PX.out.keep B6.out) HFW.out
        unfold reqV at HSQ
        rw [HM1.out, HP1.out, HRB.out] at HSQ
        have HSQ := hideIt HSQ
        clear hz HMD QB Q6 P6
        generalize R.1.fs.length = nr at *
        generalize R.1.body.length = nrb at *
        generalize strOf R.1.m = rm at *
        generalize strOf R.1.p = rp at *
        generalize sameQ R.1 r = sq at *
        go_wp2_with fail
        refine HSQ.out.mono ?_
        rintro e u3 ⟨rfl, hb⟩
        have B7 := hideIt (below_then BX.out (below_then B6.out hb))
        clear hb HSQ y0 y1 y2 y3 z0 z1 z2 z3 B6
        cases sq
        · go_wp2_with fail
          go_ret2
          exact ⟨_, by unfold kindQ; rw [hma.out]; rfl, (fun h => by rw [hma.out] at h; cases h), fun _ => rfl, B7.out⟩
        · obtain ⟨d2, u4, hcv2, hp2, hb2⟩ := conv_str u3 T (by have := HTS.out; rw [HTL.out]; omega)
          have P2 := hideIt hp2
          have B8 := hideIt (below_then B7.out hb2)
          rw [HTL.out] at hcv2
          clear hp2 hb2
          go_wp2_with fail
          go_ret2
          refine ⟨_, by unfold kindQ; rw [hma.out]; rfl, fun _ => ⟨_, _, ?_, by rw [HTT.out]; exact P2.out⟩, (fun h => by rw [hma.out] at h; cases h), B8.out⟩
          rw [HTT.out, HTL.out]; rfl
      · have hne : ¬ ((R.2 : Nat) : Int) = 0 := by omega
        have hma : Hid (mayQ r = false) := hideIt (by rw [HMD.out, decide_eq_false hz]; rfl)
        have B7 := hideIt (below_then BX.out B6.out)
        clear hz HMD
        generalize R.2 = k9 at *
        go_wp2_with fail
        go_ret2
        exact ⟨_, by unfold kindQ; rw [hma.out]; rfl, (fun h => by rw [hma.out] at h; cases h), fun _ => rfl, B7.out⟩
theorem go_refhttpprint : goFn Tryd.prog 32 = true := by kernel_rfl
end Go.Proofs.YtbojigimldfghaaDoor
