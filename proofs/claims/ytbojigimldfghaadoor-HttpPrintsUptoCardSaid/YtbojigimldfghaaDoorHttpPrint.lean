/- Contract of http.Print. -/
import Derived.Test.YtbojigimldfghaaDoorHttpText
import Derived.Test.YtbojigimldfghaaDoorMarked
import Derived.Test.YtbojigimldfghaaDoorHeadPrint
import Derived.Test.YtbojigimldfghaaDoorPairCell
import Derived.Deep.Cut
namespace Go.Proofs.YtbojigimldfghaaDoor
open Go.ChangeShapes Go.WideShapes Go.ChangeAt Go.RowKit
set_option linter.unusedVariables false
set_option linter.unusedSimpArgs false

/-- the text of the first fields -/
def doneT (r : ReqL) (j : Nat) : List UInt8 := firstT r.m r.p ++ crlf ++ linesJ ((r.fs.take j).map lineP)
theorem doneT_zero (r : ReqL) : doneT r 0 = firstT r.m r.p ++ crlf := by simp [doneT, linesJ]
theorem doneT_succ (r : ReqL) (j : Nat) (x : PairL) (h : r.fs[j]? = some x) : doneT r (j + 1) = doneT r j ++ (lineP x ++ crlf) := by
  obtain ⟨h1, h2⟩ := List.getElem?_eq_some_iff.1 h
  unfold doneT
  rw [List.take_succ_eq_append_getElem h1, h2, List.map_append, linesJ_app2]
  simp [linesJ]
theorem doneT_all (r : ReqL) : doneT r r.fs.length ++ crlf ++ r.body = textQ r := by simp [doneT, textQ]
theorem doneT_len (r : ReqL) (j : Nat) : (doneT r j).length ≤ r.m.length + r.p.length + 12 + 4 * bulkQ r.fs := by
  have h1 := linesP_len (r.fs.take j)
  have h2 := bulkQ_le r.fs j
  simp only [doneT, firstT, List.length_append, show verL.length = 8 from rfl, show crlf.length = 2 from rfl, List.length_cons, List.length_nil]
  omega
def kindQ (r : ReqL) : Nat := if mayQ r then 0 else 10
def PrintPost (r : ReqL) (w : World) (e : Ending) (w' : World) : Prop :=
  ∃ v, e = .returned (.tuple #[v, .int .u16 (kindQ r : Int)]) ∧ (mayQ r = true → MRow w.heap.size v (textQ r) w') ∧ (mayQ r = false → v = .slice none 0 0) ∧ Below w.heap.size w w'
theorem first_str (m p : List UInt8) : strOf m ++ ⟨#[32]⟩ ++ strOf p ++ ⟨#[32]⟩ ++ ⟨#[72, 84, 84, 80, 47, 49, 46, 49]⟩ ++ ⟨#[13, 10]⟩ = strOf (firstT m p ++ crlf) := by
  rw [show (⟨#[32]⟩ : ByteArray) = strOf [32] from rfl, show (⟨#[72, 84, 84, 80, 47, 49, 46, 49]⟩ : ByteArray) = strOf verL from rfl, show (⟨#[13, 10]⟩ : ByteArray) = strOf crlf from rfl, strOf_append, strOf_append, strOf_append, strOf_append, strOf_append]
  rfl
theorem req_few (b : List UInt8) : (reqL b).1.fs.length ≤ 1000000 := by
  have hz : ReqZ.fs.length ≤ 1000000 := by decide
  cases hL : linesL b with
  | none => rw [req_none hL]; exact hz
  | some z =>
    obtain ⟨ls, q⟩ := z
    rw [req_some hL]
    cases ls with
    | nil => exact hz
    | cons x ls =>
      by_cases h1 : (firstL x).2 = 0
      · by_cases h2 : (fieldsL ls).2 = 0
        · rw [after_body h1 h2]
          obtain ⟨h40, _, hf⟩ := fieldsL_small h2
          split
          · exact hz
          · show (fieldsL ls).1.length ≤ 1000000
            rw [hf, List.length_map]; omega
        · rw [after_fields h1 h2]; exact hz
      · rw [after_first h1]; exact hz
set_option maxRecDepth 8000 in
set_option maxHeartbeats 4000000 in
theorem httpprint_any (r : ReqL) (fv : Value) (A : Option Addr) (c : Nat) (w : World) (hp : ReqParts fv A c r w) (hB : r.m.length + r.p.length + r.body.length + bulkQ r.fs ≤ 20000) (hm : MaxOk w) :
    Calls Tryd.prog 22 #[reqV r fv A c] w (PrintPost r w) := by
  obtain ⟨FA, fc, rfl, f1, f2, f3, f4⟩ := hp.fields.form
  have HBD := hideIt hp.body
  have HM := hideIt hm
  have HP0 := hideIt hp
  have hln := bulkQ_len r.fs
  have HD0 := doneT_zero r
  have hd0 := doneT_len r 0
  obtain ⟨X, hX⟩ : ∃ X, w.alloc (.cells #[.string (strOf r.m), .string (strOf r.p), .slice FA r.fs.length fc, .slice A r.body.length c] 33) = X := ⟨_, rfl⟩
  have hbx : Below w.heap.size w X := by rw [← hX]; exact below_new w _
  have hqx : QCell X w.heap.size (.string (strOf r.m)) (.string (strOf r.p)) (.slice FA r.fs.length fc) (.slice A r.body.length c) := by rw [← hX]; exact QCell.new w _ _ _ _
  have q0 := hqx.c0
  have q1 := hqx.c1
  have BX := hideIt hbx
  have QX := hideIt hqx
  have FT := hideIt (f4.keep hbx)
  have BD := hideIt (hp.body.keep hbx)
  have HX := hideIt hX
  obtain ⟨v0, u0, hcv, hm0, hb0⟩ := conv_marked X (doneT r 0) (by omega)
  rw [HD0, ← first_str] at hcv
  have zm : (strOf r.m).size ≤ 20000 := by rw [strOf_size]; omega
  have zp : (strOf r.p).size ≤ 20000 := by rw [strOf_size]; omega
  have M0 := hideIt hm0
  have B0 := hideIt hb0
  have GX : Hid (w.heap.size < X.heap.size) := hideIt hqx.lt
  unfold reqV
  clear hp f1 f2 f3 f4 hm hX hbx hqx hm0 hb0 HD0 HBD
  generalize hm1 : strOf r.m = sm at *
  generalize hp1 : strOf r.p = spp at *
  have HM1 := hideIt hm1
  have HP1 := hideIt hp1
  clear hm1 hp1
  generalize hnf : r.fs.length = nf at *
  have HNF := hideIt hnf
  clear hnf
  go_enter Tryd.func22, Tryd.ntmps22
  go_upto_region 1 with fail
  rw [HX.out]
  obtain ⟨g0, c0, rfl, _, _, _⟩ := M0.out.open (by omega)
  have Q0 := QX.out.keep B0.out GX.out
  have q2 := Q0.c2
  have FT0 := hideIt (FT.out.keep B0.out)
  go_wp2_with fail
  clear q0 q1 q2 hcv
  go_loopw [4, 24] (fun bv iv wr => ∃ j : Nat, j ≤ nf ∧ iv = .int .i64 (j : Int) ∧ MRow X.heap.size bv (doneT r j) wr ∧ Below X.heap.size X wr ∧ (∀ y ∈ r.fs.take j, (printF y).2 = 0)) (fun bv iv wr => nf - (intOf iv).toNat)
  case atStart => exact ⟨0, by omega, rfl, M0.out, B0.out, by simp⟩
  case round =>
    obtain ⟨j, hj, rfl, hmr, hbr, hall⟩ := hrel
    have MR := hideIt hmr
    have BR := hideIt hbr
    have HALL := hideIt hall
    clear hmr hbr hall
    have hdl := doneT_len r j
    have hwj : IntKind.i64.wrap ((j : Int) + 1) = (j : Int) + 1 := IntWalk.i64_in _ (by omega)
    by_cases hlt : j < nf
    · have hji : (j : Int) < (nf : Int) := by omega
      obtain ⟨x, hx⟩ : ∃ x, r.fs[j]? = some x := ⟨_, List.getElem?_eq_getElem (by have := HNF.out; omega)⟩
      have hxb := bulkQ_each r.fs x (List.mem_of_getElem? hx)
      obtain ⟨b, off, rfl, hlt2, hc⟩ := (FT.out.keep BR.out) (by have := HNF.out; omega)
      obtain ⟨c1, c2⟩ := hc j x hx
      have HXM := hideIt (List.mem_of_getElem? hx)
      have HDS := hideIt (doneT_succ r j x hx)
      have HTK : Hid (∀ (h : (printF x).2 = 0), ∀ y ∈ r.fs.take (j + 1), (printF y).2 = 0) := hideIt fun h y hy => by
        obtain ⟨h1, h2⟩ := List.getElem?_eq_some_iff.1 hx
        rw [List.take_succ_eq_append_getElem h1, h2] at hy
        rcases List.mem_append.1 hy with hy | hy
        · exact HALL.out y hy
        · rw [List.mem_singleton.1 hy]; exact h
      rw [show off + 2 * j = off + j * 2 by omega] at c1 c2
      have hbn := below_new wr (.cells #[.string (strOf x.1), .string (strOf x.2)] 40)
      have P1 := hideIt (PCell.new wr x)
      have B1 := hideIt (below_then BR.out hbn)
      have M1 := hideIt (MR.out.keep hbn)
      have HPR := hideIt (fun w => print_any x w (by omega) (by omega))
      unfold pairV at HPR
      clear hc hx hbn
      have hpl := lineP_len x
      have EL : Hid (lineP x = (printF x).1) := hideIt rfl
      have zl : (strOf (lineP x)).size ≤ 50000 := by rw [strOf_size]; omega
      have ES : Hid (strOf (lineP x) ++ (⟨#[13, 10]⟩ : ByteArray) = strOf (lineP x ++ crlf)) := hideIt (by rw [show (⟨#[13, 10]⟩ : ByteArray) = strOf crlf from rfl, strOf_append])
      have HLC : Hid ((lineP x ++ crlf).length ≤ 60000) := hideIt (by simp [crlf]; omega)
      by_cases hz : (printF x).2 = 0
      · rw [hz, ← EL.out] at HPR
        have HZ := hideIt hz
        clear hz
        obtain ⟨gm, cm, rfl, _, _, _⟩ := MR.out.open (by omega)
        go_upto_region 5 with fail
        generalize wr.alloc (.cells #[.string (strOf x.1), .string (strOf x.2)] 40) = X1 at *
        generalize wr.heap.size = g1 at *
        have p0 := P1.out.cell0
        have p1 := P1.out.cell1
        go_wp2_with fail
        refine (HPR.out _).mono ?_
        rintro e u1 ⟨rfl, hb⟩
        have B2 := hideIt (below_then B1.out hb)
        have M2 := hideIt (M1.out.keep hb)
        clear hb p0 p1 c1 c2 B1 M1 MR BR
        generalize lineP x = lx at *
        go_upto_region 8 with fail
        go_wp2_with (rw [ES.out]; at_builtin; refine wpList_appMS rfl (.tmp 35) (.tmp 37) rfl X.heap.size _ _ (lx ++ crlf) rfl M2.out rfl (by have := HLC.out; omega) B2.out.size ?_)
        intro v4 w4 o4 g4
        have M4 : Hid (MRow X.heap.size v4 (doneT r (j + 1)) w4) := hideIt (by rw [HDS.out]; exact o4)
        have B4 := hideIt (B2.out.grown g4 B2.out.size (fun k hk => (M2.out.lt k hk).1))
        clear o4 g4 M2 B2
        go_wp2_with fail
        go_roundw
        case rel => exact ⟨j + 1, by omega, by go_num, M4.out, B4.out, HTK.out HZ.out⟩
        case measure => simp [intOf]; omega
      · have hmay := hideIt (mayQ_bad r ⟨x, HXM.out, hz⟩)
        have hne : ¬ (((printF x).2 : Nat) : Int) = 0 := by omega
        clear hz HTK EL ES HLC
        generalize (printF x).2 = ek at *
        generalize strOf (printF x).1 = es at *
        go_upto_region 5 with fail
        generalize wr.alloc (.cells #[.string (strOf x.1), .string (strOf x.2)] 40) = X1 at *
        generalize wr.heap.size = g1 at *
        have p0 := P1.out.cell0
        have p1 := P1.out.cell1
        go_wp2_with fail
        refine (HPR.out _).mono ?_
        rintro e u1 ⟨rfl, hb⟩
        have B2 := hideIt (below_then BX.out (below_then B1.out hb))
        clear hb p0 p1 c1 c2 B1 M1 MR BR
        go_wp2_with fail
        go_ret2
        exact ⟨_, by unfold kindQ; rw [hmay.out]; rfl, (fun h => by rw [hmay.out] at h; cases h), fun _ => rfl, B2.out⟩
    · obtain rfl : j = nf := by omega
      have hji : ¬ (j : Int) < (j : Int) := by omega
      have HDA := hideIt (doneT_all r)
      rw [HNF.out] at HDA
      have htl : (textQ r).length ≤ 90000 := by rw [← HDA.out]; simp [crlf]; omega
      obtain ⟨gm, cm, rfl, _, _, _⟩ := MR.out.open (by omega)
      go_wp2_with (at_builtin; refine wpList_appMS rfl (.tmp 40) _ rfl X.heap.size _ _ crlf rfl MR.out rfl (by simp [crlf]; omega) BR.out.size ?_)
      intro v4 w4 o4 g4
      have M4 := hideIt o4
      have B4 := hideIt (BR.out.grown g4 BR.out.size (fun k hk => (MR.out.lt k hk).1))
      have q3 := (QX.out.keep B4.out GX.out).c3
      have D4 := hideIt (BD.out.keep B4.out)
      clear o4 g4 MR BR
      go_wp2_with (at_builtin; refine wpList_appMB rfl (.tmp 42) (.tmp 44) rfl X.heap.size _ _ r.body rfl M4.out A r.body.length c _ rfl rfl D4.out.nil D4.out.bytes (by simp [crlf]; omega) B4.out.size ?_)
      intro v5 w5 o5 g5
      have M5 : Hid (MRow X.heap.size v5 (textQ r) w5) := hideIt (by rw [← HDA.out]; first | exact o5 | (rw [List.append_assoc]; exact o5))
      have B5 := hideIt (B4.out.grown g5 B4.out.size (fun k hk => (M4.out.lt k hk).1))
      clear o5 g5 M4 B4 q3 D4
      obtain ⟨g6, c6, rfl, _, _, hp6⟩ := M5.out.open (by omega)
      have HP := hideIt (parse_any _ (textQ r) _ c6 w5 hp6 rfl (by omega) (HM.out.keep (below_then BX.out B5.out)))
      have hmayd : mayQ r = (decide ((reqL (textQ r)).2 = 0) && sameQ (reqL (textQ r)).1 r) := rfl
      have hfew := req_few (textQ r)
      obtain ⟨R, hR⟩ : ∃ R, reqL (textQ r) = R := ⟨_, rfl⟩
      rw [hR] at HP hmayd hfew
      have HMD := hideIt hmayd
      have HFW := hideIt hfew
      clear hp6 hR hmayd hfew
      generalize htt : textQ r = T at *
      have HTT := hideIt htt
      clear htt
      generalize hntl : T.length = tl at *
      have HTL := hideIt hntl
      clear hntl
      go_wp2_with fail
      refine HP.out.mono ?_
      rintro e u2 ⟨gv, C, cc, rfl, hparts, hb⟩
      obtain ⟨GA, gc, rfl, _⟩ := hparts.fields.form
      have hbn := below_new u2 (.cells #[.string (strOf R.1.m), .string (strOf R.1.p), .slice GA R.1.fs.length gc, .slice C R.1.body.length cc] 33)
      have B6 := hideIt (below_then (below_then B5.out hb) hbn)
      have M6 := hideIt ((M5.out.keep hb).keep hbn)
      have Q6 := hideIt (QCell.new u2 (.string (strOf R.1.m)) (.string (strOf R.1.p)) (.slice GA R.1.fs.length gc) (.slice C R.1.body.length cc))
      have P6 := hideIt (hparts.keep hbn)
      clear hb hbn hparts HP B5 M5
      unfold reqV
      go_upto_region 13 with fail
      generalize u2.alloc (.cells #[.string (strOf R.1.m), .string (strOf R.1.p), .slice GA R.1.fs.length gc, .slice C R.1.body.length cc] 33) = Y at *
      generalize u2.heap.size = g7 at *
      by_cases hz : R.2 = 0
      · rw [hz]
        have hma : Hid (mayQ r = sameQ R.1 r) := hideIt (by rw [HMD.out, decide_eq_true hz]; rfl)
        have PR := hideIt (⟨FT.out, BD.out⟩ : PairsAt X FA r.fs ∧ PieceOk X ⟨A, c, r.body⟩)
        have QB := hideIt (QX.out.keep B6.out GX.out)
        have y0 := Q6.out.c0
        have y1 := Q6.out.c1
        have y2 := Q6.out.c2
        have y3 := Q6.out.c3
        have z0 := QB.out.c0
        have z1 := QB.out.c1
        have z2 := QB.out.c2
        have z3 := QB.out.c3
        have HPX := hideIt (HP0.out.keep (below_then BX.out B6.out))
        have HSQ := same4_any R.1 r (.slice GA R.1.fs.length gc) (.slice FA j fc) C A cc c Y P6.out HPX.out HFW.out
        unfold reqV at HSQ
        rw [HM1.out, HP1.out] at HSQ
        have HSQ := hideIt HSQ
        clear hz PR HMD
        generalize R.1.fs.length = nr at *
        generalize R.1.body.length = nrb at *
        generalize strOf R.1.m = rm at *
        generalize strOf R.1.p = rp at *
        generalize sameQ R.1 r = sq at *
        go_wp2_with fail
        refine HSQ.out.mono ?_
        rintro e u3 ⟨rfl, hb⟩
        have B7 := hideIt (below_then BX.out (below_then B6.out hb))
        have M7 := hideIt (M6.out.keep hb)
        clear hb HSQ y0 y1 y2 y3 z0 z1 z2 z3 B6 M6
        cases sq
        · go_wp2_with fail
          go_ret2
          exact ⟨_, by unfold kindQ; rw [hma.out]; rfl, (fun h => by rw [hma.out] at h; cases h), fun _ => rfl, B7.out⟩
        · go_wp2_with fail
          go_ret2
          refine ⟨_, by unfold kindQ; rw [hma.out]; rfl, fun _ => ?_, (fun h => by rw [hma.out] at h; cases h), B7.out⟩
          have := M7.out.base (base' := w.heap.size) BX.out.size
          rw [HTT.out, ← HTL.out]
          rw [← HTL.out] at this
          exact this
      · have hne : ¬ ((R.2 : Nat) : Int) = 0 := by omega
        have hma : Hid (mayQ r = false) := hideIt (by rw [HMD.out, decide_eq_false hz]; rfl)
        have B7 := hideIt (below_then BX.out B6.out)
        clear hz HMD
        generalize R.2 = k9 at *
        go_wp2_with fail
        go_ret2
        exact ⟨_, by unfold kindQ; rw [hma.out]; rfl, (fun h => by rw [hma.out] at h; cases h), fun _ => rfl, B7.out⟩
theorem go_httpprint : goFn Tryd.prog 22 = true := by kernel_rfl
end Go.Proofs.YtbojigimldfghaaDoor
