/- Contract of the reference's Print of responses. And what was RefRPrint. -/
import Derived.Test.YtolikoediafkkaaDoorRespPrint
import Derived.Test.YtolikoediafkkaaDoorRefReason
import Derived.Test.YtolikoediafkkaaDoorRefHeadField
import Derived.Test.YtolikoediafkkaaDoorStrBytes
import Derived.Deep.Cut
import Derived.Handy
import Derived.Test.YtolikoediafkkaaDoorRespParsed
import Derived.Test.YtolikoediafkkaaDoorRefDec
import Derived.Test.YtolikoediafkkaaDoorStrRun
namespace Go.Proofs.YtolikoediafkkaaDoor
open Go.ChangeShapes Go.WideShapes Go.ChangeAt Go.RowKit
set_option linter.unusedVariables false
set_option linter.unusedSimpArgs false

def RefPrintRPost (r : RespL) (w : World) (e : Ending) (w' : World) : Prop :=
  ∃ A' c', e = .returned (.tuple #[.slice A' (printR r).1.length c', .int .i64 ((printR r).2 : Int)]) ∧ PieceOk w' ⟨A', c', (printR r).1⟩ ∧ (∀ k, k < w.heap.size → Apart A' (printR r).1 k) ∧ Below w.heap.size w w'
theorem refprint_not {r : RespL} {w w' : World} {k : Nat} (h : printR r = ([], k)) (hb : Below w.heap.size w w') : RefPrintRPost r w (.returned (.tuple #[.slice none 0 0, .int .i64 (k : Int)])) w' := by
  refine ⟨none, 0, by rw [h]; rfl, by rw [h]; exact piece_nil _, ?_, hb⟩
  intro j _ hn ad he
  cases he
set_option maxRecDepth 8000 in
set_option maxHeartbeats 4000000 in
theorem refrprint_any (r : RespL) (fv : Value) (A : Option Addr) (c : Nat) (w : World) (hp : RespParts fv A c r w) (hl : r.fs.length ≤ 40 → ∀ p ∈ r.fs, p.1.length ≤ 400000 ∧ p.2.length ≤ 400000) (hT : PowOk w) :
    Calls Tryd.prog 12 #[respV r fv A c] w (RefPrintRPost r w) := by
  obtain ⟨FA, fc, rfl, f1, f2, f3, f4⟩ := hp.fields.form
  obtain ⟨q, hq⟩ : ∃ q, w.heap.size = q := ⟨_, rfl⟩
  obtain ⟨X, hX⟩ : ∃ X, w.alloc (.cells #[.int .i64 r.status, .slice FA r.fs.length fc, .slice A r.body.length c] 25) = X := ⟨_, rfl⟩
  have hbx : Below w.heap.size w X := by rw [← hX]; exact below_new w _
  have hqx : RCell X q (.int .i64 r.status) (.slice FA r.fs.length fc) (.slice A r.body.length c) := by rw [← hX, ← hq]; exact RCell.new w _ _ _
  have hxs : X.heap.size = q + 1 := by rw [← hX, ← hq]; exact alloc_size w _
  obtain ⟨s, hs⟩ : ∃ s, r.status = s := ⟨_, rfl⟩
  have HRE := hideIt (refreason_any s X)
  have BX := hideIt hbx
  have HXS := hideIt hxs
  have HX := hideIt hX
  have HP0 := hideIt hp
  have HT0 := hideIt hT
  have HLL := hideIt hl
  have HS := hideIt hs
  have hbod := hp.body.fits
  have hbod2 := hp.body.most
  simp only at hbod hbod2
  unfold respV
  rw [hs] at hqx hX ⊢
  have HX := hideIt hX
  have QX := hideIt hqx
  have c0 := hqx.c0
  have HF4 := hideIt f4
  clear hp hl hT hbx hqx hX f4 hxs hs
  by_cases h0 : reasonL s = []
  · have HE : Hid (printR r = ([], 1)) := hideIt (by unfold printR; rw [HS.out, if_pos h0])
    have hem := emptyS h0
    clear h0
    generalize strOf (reasonL s) = R at *
    go_enter Tryd.func12, Tryd.ntmps12
    go_upto_region 1 with fail
    rw [HX.out]
    go_wp2_with fail
    refine HRE.out.mono ?_
    rintro e u1 ⟨rfl, hb⟩
    have B1 := hideIt (below_then BX.out hb)
    clear hb c0
    go_wp2_with fail
    go_ret2
    exact refprint_not HE.out B1.out
  · have hem := fullS h0
    have HS0 := hideIt h0
    clear h0
    generalize hR : strOf (reasonL s) = R at *
    clear hR
    by_cases h1 : 4000 < r.body.length
    · have HE : Hid (printR r = ([], 3)) := hideIt (by unfold printR; rw [HS.out, if_neg HS0.out, if_pos (Or.inl h1)])
      have h1' : (4000 : Int) < (r.body.length : Int) := by omega
      go_enter Tryd.func12, Tryd.ntmps12
      go_upto_region 1 with fail
      rw [HX.out]
      go_wp2_with fail
      refine HRE.out.mono ?_
      rintro e u1 ⟨rfl, hb⟩
      have B1 := hideIt (below_then BX.out hb)
      have c2 := (QX.out.keep hb QX.out.lt).c2
      clear hb c0
      go_wp2_with fail
      go_ret2
      exact refprint_not HE.out B1.out
    · by_cases h2 : 40 < r.fs.length
      · have HE : Hid (printR r = ([], 3)) := hideIt (by unfold printR; rw [HS.out, if_neg HS0.out, if_pos (Or.inr h2)])
        have h1' : ¬ (4000 : Int) < (r.body.length : Int) := by omega
        have h2' : (40 : Int) < (r.fs.length : Int) := by omega
        go_enter Tryd.func12, Tryd.ntmps12
        go_upto_region 1 with fail
        rw [HX.out]
        go_wp2_with fail
        refine HRE.out.mono ?_
        rintro e u1 ⟨rfl, hb⟩
        have B1 := hideIt (below_then BX.out hb)
        have Q1 := QX.out.keep hb QX.out.lt
        have c1 := Q1.c1
        have c2 := Q1.c2
        clear hb c0 Q1
        go_wp2_with fail
        go_ret2
        exact refprint_not HE.out B1.out
      · have HE : Hid ((∀ p, badF r.fs = some p → printR r = ([], (printF p).2)) ∧ (badF r.fs = none → printR r = (textR r, 0))) := hideIt ⟨fun p h => by unfold printR; rw [HS.out, if_neg HS0.out, if_neg (by omega), h], fun h => by unfold printR; rw [HS.out, if_neg HS0.out, if_neg (by omega), h]⟩
        have h1' : decide ((4000 : Int) < (r.body.length : Int)) = false := decide_eq_false (by omega)
        have h2' : decide ((40 : Int) < (r.fs.length : Int)) = false := decide_eq_false (by omega)
        have HN1 : Hid (r.body.length ≤ 4000) := hideIt (by omega)
        have HN2 : Hid (r.fs.length ≤ 40) := hideIt (by omega)
        have hs1 : reasonL r.status ≠ [] := by rw [HS.out]; exact HS0.out
        obtain ⟨n, hn, hn9⟩ := status_nat HS0.out
        have HDL := hideIt (fun (j : Nat) (h : ∀ y ∈ r.fs.take j, (printF y).2 = 0) => doneR_len hs1 HN2.out h)
        have HD0 := hideIt (doneR_zero r)
        have HDA := hideIt (doneR_all r)
        have HF6 := hideIt (first_fine hs1)
        have HFI : Hid (verL ++ [32] ++ digL n ++ [32] ++ reasonL s = firstR r.status) := hideIt (by rw [HS.out, hn]; rfl)
        have HLN : Hid ((lengLine r.body.length).length ≤ 25) := hideIt (lengLine_len _ HN1.out)
        have HLE : Hid (lengL ++ [58, 32] ++ digL r.body.length = lengLine r.body.length) := hideIt rfl
        have hz : (digL n).length ≤ 9 := (digL_nine n).2 (by omega)
        have hz2 : (reasonL s).length ≤ 60 := by
          have h6 := HF6.out.2.2.1
          rw [← HFI.out] at h6
          simp at h6; omega
        have hz3 : (digL r.body.length).length ≤ 9 := (digL_nine _).2 (by omega)
        have HITA : Hid (∀ w1, Below w.heap.size w w1 → Calls Tryd.prog 27 #[.int .i64 s] w1 fun e w' => e = .returned (.string (strOf (digL n))) ∧ Below w1.heap.size w1 w') := hideIt (fun (w1 : World) (hb : Below w.heap.size w w1) => by rw [hn]; exact itoa_any n (by omega) w1 (HT0.out.keep hb))
        have HITB := hideIt (fun (w1 : World) (hb : Below w.heap.size w w1) => itoa_any r.body.length (by have := HN1.out; omega) w1 (HT0.out.keep hb))
        have HRR := hideIt (fun w1 => refreason_any s w1)
        have HFF := hideIt f3
        clear h1 h2
        generalize hRS : reasonL s = RS at *
        generalize hDG : digL n = DG at *
        clear hs1 f1 f2 hn hRS hDG
        go_enter Tryd.func12, Tryd.ntmps12
        go_upto_region 1 with fail
        rw [HX.out]
        go_wp2_with fail
        refine HRE.out.mono ?_
        rintro e u1 ⟨rfl, hb⟩
        have B1 := hideIt (below_then BX.out hb)
        have Q1 := QX.out.keep hb QX.out.lt
        have c1 := Q1.c1
        have c2 := Q1.c2
        have HC0 := hideIt Q1.c0
        have HQL := hideIt Q1.lt
        have QQ := hideIt Q1
        clear hb c0 Q1
        go_upto_region 5 with fail
        refine region_inv [Fact.is (.pointer (some ⟨q, 0, none⟩)), Fact.is (.int .i64 s), Fact.str (DG), Fact.str (verL ++ [32] ++ DG), Fact.str (verL ++ [32] ++ DG ++ [32]), Fact.is (.pointer (some ⟨q, 0, none⟩)), Fact.is (.int .i64 s), Fact.str (RS), Fact.str (verL ++ [32] ++ DG ++ [32] ++ RS), Fact.str (verL ++ [32] ++ DG ++ [32] ++ RS ++ crlf), Fact.str (verL ++ [32] ++ DG ++ [32] ++ RS ++ crlf)] (by kernel_rfl) (by kernel_rfl) ⟨fun a w1 m => ?_, fun a w1 m => ?_, fun a w1 m => ?_, fun a w1 m => ?_, fun a w1 m => ?_, fun a w1 m => ?_, fun a w1 m => ?_, fun a w1 m => ?_, fun a w1 m => ?_, fun a w1 m => ?_, fun a w1 m => ?_, trivial⟩ ?_
        · exact ok_fieldR0 (wanted_none rfl) (.tmp 1) rfl q 0 (m.old 1 rfl)
        · exact ok_loadI (wanted_none rfl) (.tmp 22) rfl ⟨q, 0, none⟩ _ (m.has 0 22 rfl rfl) ((m.grew.cell (p := ⟨q, 0, none⟩) HQL.out).trans HC0.out)
        · exact ok_fn (wanted_none rfl) _ _ _ rfl _ (map1 (m.has 1 23 rfl rfl)) go_itoa (HITA.out w1 (below_then B1.out m.grew)) (fun e w' ⟨h1, h2⟩ => ⟨_, h1, rfl, h2⟩)
        · exact ok_strcat (wanted_none rfl) _ (.tmp 24) _ rfl _ _ _ (rfl) (m.has 2 24 rfl rfl) (by simp [verL]; omega) (rfl)
        · exact ok_strcat (wanted_none rfl) (.tmp 25) _ _ rfl _ _ _ (m.has 3 25 rfl rfl) (rfl) (by simp [verL]; omega) (rfl)
        · exact ok_fieldR0 (wanted_none rfl) (.tmp 1) rfl q 0 (m.old 1 rfl)
        · exact ok_loadI (wanted_none rfl) (.tmp 27) rfl ⟨q, 0, none⟩ _ (m.has 5 27 rfl rfl) ((m.grew.cell (p := ⟨q, 0, none⟩) HQL.out).trans HC0.out)
        · exact ok_fn (wanted_none rfl) _ _ _ rfl _ (map1 (m.has 6 28 rfl rfl)) go_refreason (HRR.out w1) (fun e w' ⟨h1, h2⟩ => ⟨_, h1, rfl, h2⟩)
        · exact ok_strcat (wanted_none rfl) (.tmp 26) (.tmp 29) _ rfl _ _ _ (m.has 4 26 rfl rfl) (m.has 7 29 rfl rfl) (by simp [verL]; omega) (rfl)
        · exact ok_strcat (wanted_none rfl) (.tmp 30) _ _ rfl _ _ _ (m.has 8 30 rfl rfl) (rfl) (by simp [verL, crlf]; omega) (rfl)
        · exact ok_assign (wanted_none rfl) (.tmp 31) rfl (m.has 9 31 rfl rfl)
        intro f w9 hg hf
        have e10 : f 10 = .string (strOf (verL ++ [32] ++ DG ++ [32] ++ RS ++ crlf)) := hf 10 (by decide)
        have B9 := hideIt (below_then B1.out hg)
        clear hf
        simp only [List.take, List.drop, putAll, Act.put, List.setIfInBounds_toArray, List.set_cons_succ, List.set_cons_zero]
        rw [e10]
        clear e10
        rw [HFI.out, ← HD0.out]
        simp only [Nat.zero_add, Nat.reduceAdd]
        have QZ := hideIt (QQ.out.keep hg QQ.out.lt)
        clear hg HRR HITA HFI hz hz2 HRE c1 c2 B1 QQ HC0 HQL
        generalize hnf : r.fs.length = nf at *
        have HNF := hideIt hnf
        have HN40 : Hid (nf ≤ 40) := hideIt HN2.out
        clear hnf
        go_wp2_with fail
        clear h1' h2'
        go_loopw [4, 5] (fun tv iv wr => ∃ j : Nat, j ≤ nf ∧ iv = .int .i64 (j : Int) ∧ tv = .string (strOf (doneR r j)) ∧ Below w.heap.size w wr ∧ RCell wr q (.int .i64 s) (.slice FA nf fc) (.slice A r.body.length c) ∧ (∀ y ∈ r.fs.take j, (printF y).2 = 0)) (fun tv iv wr => nf - (intOf iv).toNat)
        case atStart => exact ⟨0, by omega, rfl, rfl, B9.out, QZ.out, by simp⟩
        case round =>
          obtain ⟨j, hj, rfl, rfl, hbr, hqr, hall⟩ := hrel
          have BR := hideIt hbr
          have QR := hideIt hqr
          have HALL := hideIt hall
          have hdl := HDL.out j hall
          have q1 := hqr.c1
          clear hbr hqr hall
          have hwj : IntKind.i64.wrap ((j : Int) + 1) = (j : Int) + 1 := IntWalk.i64_in _ (by have := HN40.out; omega)
          have zD : (strOf (doneR r j)).size ≤ 100000 := by rw [strOf_size]; omega
          by_cases hlt : j < nf
          · have hji : (j : Int) < (nf : Int) := by omega
            obtain ⟨x, hx⟩ : ∃ x, r.fs[j]? = some x := ⟨_, List.getElem?_eq_getElem (by have := HNF.out; omega)⟩
            have hxb := (HLL.out HN40.out) x (List.mem_of_getElem? hx)
            obtain ⟨b, off, rfl, hlt2, hc⟩ := (HF4.out.keep BR.out) (by have := HNF.out; omega)
            obtain ⟨c1, c2⟩ := hc j x hx
            have HDS := hideIt (doneR_succ r j x hx)
            have HTK : Hid (∀ (h : (printF x).2 = 0), ∀ y ∈ r.fs.take (j + 1), (printF y).2 = 0) := hideIt fun h y hy => by
              obtain ⟨h1, h2⟩ := List.getElem?_eq_some_iff.1 hx
              rw [List.take_succ_eq_append_getElem h1, h2] at hy
              rcases List.mem_append.1 hy with hy | hy
              · exact HALL.out y hy
              · rw [List.mem_singleton.1 hy]; exact h
            have HBAD := hideIt (fun h => badF_at HALL.out hx h)
            rw [show off + 2 * j = off + j * 2 by omega] at c1 c2
            have HPR := hideIt (fun w => refprint_any x w (by omega) (by omega))
            unfold pairV at HPR
            clear hc hx
            have hpl := lineP_len x
            have EL : Hid (lineP x = (printF x).1) := hideIt rfl
            by_cases hz : (printF x).2 = 0
            · rw [hz, ← EL.out] at HPR
              have HZ := hideIt hz
              have hlx : (lineP x).length ≤ 2000 := by rw [(lineP_ok hz).1]; exact (lineP_ok hz).2.2
              have ES : Hid (strOf (doneR r j) ++ strOf (lineP x) ++ (⟨#[13, 10]⟩ : ByteArray) = strOf (doneR r (j + 1))) := hideIt (by rw [HDS.out, show (⟨#[13, 10]⟩ : ByteArray) = strOf crlf from rfl, strOf_append, strOf_append, List.append_assoc])
              have zL : (strOf (lineP x)).size ≤ 2000 := by rw [strOf_size]; omega
              clear hz
              generalize strOf (doneR r j) = sD at *
              generalize strOf (lineP x) = sL at *
              go_wp2_with fail
              refine (HPR.out _).mono ?_
              rintro e u2 ⟨rfl, hb⟩
              have B2 := hideIt (below_then BR.out hb)
              have Q2 := hideIt (QR.out.keep hb QR.out.lt)
              clear hb c1 c2 q1 BR QR
              go_wp2_with fail
              go_roundw
              case rel => exact ⟨j + 1, by omega, by go_num, by rw [← ES.out], B2.out, Q2.out, HTK.out HZ.out⟩
              case measure => simp [intOf]; omega
            · have HBD := hideIt (HBAD.out hz)
              have HEP := hideIt (HE.out.1 x HBD.out)
              have hne : ¬ (((printF x).2 : Nat) : Int) = 0 := by omega
              obtain ⟨ek, hek⟩ : ∃ ek, (printF x).2 = ek := ⟨_, rfl⟩
              have HEK := hideIt hek
              rw [hek] at hne HPR
              clear hz HTK EL hek
              generalize strOf (printF x).1 = es at *
              generalize strOf (doneR r j) = sD at *
              go_wp2_with fail
              refine (HPR.out _).mono ?_
              rintro e u2 ⟨rfl, hb⟩
              have B2 := hideIt (below_then BR.out hb)
              clear hb c1 c2 q1 BR QR
              go_wp2_with fail
              go_ret2
              exact refprint_not (by rw [HEP.out, HEK.out]) B2.out
          · obtain rfl : j = nf := by omega
            have hji : ¬ (j : Int) < (j : Int) := by omega
            have HBN : Hid (badF r.fs = none) := hideIt (badF_all (by have := HALL.out; rw [← HNF.out, List.take_length] at this; exact this))
            have HEP := hideIt (HE.out.2 HBN.out)
            have HDA2 : Hid (doneR r j ++ (lengLine r.body.length ++ crlf) = linesJ (headR r)) := hideIt HDA.out
            have HTL : Hid ((textR r).length ≤ 90000) := hideIt (text_len (by rw [HEP.out]))
            have HC2 := hideIt QR.out.c2
            have HQL := hideIt QR.out.lt
            have HBD := hideIt (HP0.out.body.keep BR.out)
            have HITC := hideIt (fun (w1 : World) (hg : Below wr.heap.size wr w1) => HITB.out w1 (below_then BR.out hg))
            go_upto_region 13 with fail
            clear q1
            have hdl2 : (doneR r j).length ≤ 90000 := hdl
            obtain ⟨D, hD⟩ : ∃ D, doneR r j = D := ⟨_, rfl⟩
            obtain ⟨DB, hDB⟩ : ∃ DB, digL r.body.length = DB := ⟨_, rfl⟩
            have HDEQ : Hid (D ++ (lengL ++ [58, 32]) ++ DB ++ (crlf ++ crlf) ++ r.body = textR r) := hideIt (by
              unfold textR
              rw [← HDA2.out, ← HLE.out, hD, hDB]
              simp [List.append_assoc])
            have hbl : r.body.length ≤ 4000 := HN1.out
            rw [hD] at hdl2 zD
            rw [hDB] at hz3 HITC
            rw [hD]
            clear hD hDB hdl HITB
            refine region_inv [Fact.str (D), Fact.str (D ++ (lengL ++ [58, 32])), Fact.is (.pointer (some ⟨q, 0 + 2, none⟩)), Fact.is (.slice A r.body.length c), Fact.is (.int .i64 ((r.body.length : Nat) : Int)), Fact.str (DB), Fact.str (D ++ (lengL ++ [58, 32]) ++ DB), Fact.str (D ++ (lengL ++ [58, 32]) ++ DB ++ (crlf ++ crlf)), Fact.is (.pointer (some ⟨q, 0 + 2, none⟩)), Fact.is (.slice A r.body.length c), Fact.str (r.body), Fact.str (D ++ (lengL ++ [58, 32]) ++ DB ++ (crlf ++ crlf) ++ r.body), Fact.str (D ++ (lengL ++ [58, 32]) ++ DB ++ (crlf ++ crlf) ++ r.body)] (by kernel_rfl) (by kernel_rfl) ⟨fun a w1 m => ?_, fun a w1 m => ?_, fun a w1 m => ?_, fun a w1 m => ?_, fun a w1 m => ?_, fun a w1 m => ?_, fun a w1 m => ?_, fun a w1 m => ?_, fun a w1 m => ?_, fun a w1 m => ?_, fun a w1 m => ?_, fun a w1 m => ?_, fun a w1 m => ?_, trivial⟩ ?_
            · exact ok_move (wanted_none rfl) (.tmp 4) rfl (m.old 4 rfl)
            · exact ok_strcat (wanted_none rfl) (.tmp 55) _ _ rfl _ _ _ (m.has 0 55 rfl rfl) (rfl) (by simp [lengL]; omega) (rfl)
            · exact ok_fieldR2 (wanted_none rfl) (.tmp 1) rfl q 0 (m.old 1 rfl)
            · exact ok_loadBv (wanted_none rfl) (.tmp 57) rfl ⟨q, 0 + 2, none⟩ _ (m.has 2 57 rfl rfl) ((m.grew.cell (p := ⟨q, 0 + 2, none⟩) HQL.out).trans HC2.out)
            · exact ok_len (wanted_none rfl) (.tmp 58) rfl _ _ _ ((m.has 3 58 rfl rfl))
            · exact ok_fn (wanted_none rfl) _ _ _ rfl _ (map1 (m.has 4 59 rfl rfl)) go_itoa (HITC.out w1 m.grew) (fun e w' ⟨h1, h2⟩ => ⟨_, h1, rfl, h2⟩)
            · exact ok_strcat (wanted_none rfl) (.tmp 56) (.tmp 60) _ rfl _ _ _ (m.has 1 56 rfl rfl) (m.has 5 60 rfl rfl) (by simp [lengL]; omega) (rfl)
            · exact ok_strcat (wanted_none rfl) (.tmp 61) _ _ rfl _ _ _ (m.has 6 61 rfl rfl) (rfl) (by simp [lengL, crlf]; omega) (rfl)
            · exact ok_fieldR2 (wanted_none rfl) (.tmp 1) rfl q 0 (m.old 1 rfl)
            · exact ok_loadBv (wanted_none rfl) (.tmp 63) rfl ⟨q, 0 + 2, none⟩ _ (m.has 8 63 rfl rfl) ((m.grew.cell (p := ⟨q, 0 + 2, none⟩) HQL.out).trans HC2.out)
            · exact ok_str (wanted_none rfl) (.tmp 64) rfl _ (by rw [show a.eval (.tmp 64) = _ from (m.has 9 64 rfl rfl)]; exact ⟨_, _, rfl, HBD.out.keep m.grew⟩)
            · exact ok_strcat (wanted_none rfl) (.tmp 62) (.tmp 65) _ rfl _ _ _ (m.has 7 62 rfl rfl) (m.has 10 65 rfl rfl) (by simp [lengL, crlf]; omega) (rfl)
            · exact ok_assign (wanted_none rfl) (.tmp 66) rfl (m.has 11 66 rfl rfl)
            intro f' w9' hg hf
            have e12 : f' 12 = .string (strOf (D ++ (lengL ++ [58, 32]) ++ DB ++ (crlf ++ crlf) ++ r.body)) := hf 12 (by decide)
            have B8 := hideIt (below_then BR.out hg)
            clear hf
            simp only [List.take, List.drop, putAll, Act.put, List.setIfInBounds_toArray, List.set_cons_succ, List.set_cons_zero]
            rw [e12]
            clear e12
            rw [HDEQ.out]
            clear hg
            obtain ⟨bc, w10, hcv, hpc, hbc⟩ := conv_str w9' (textR r) (by have := HTL.out; omega)
            have HPC := hideIt hpc
            have HAP : Hid (∀ k, k < w.heap.size → Apart (some ⟨w9'.heap.size, 0, none⟩) (textR r) k) := hideIt fun k hk _ ad he => by
              cases he
              have := B8.out.size
              simp only; omega
            have B10 := hideIt (below_then B8.out hbc)
            clear hpc hbc
            obtain ⟨tn, htn⟩ : ∃ tn, (textR r).length = tn := ⟨_, rfl⟩
            rw [htn] at hcv
            have HTN := hideIt htn
            generalize strOf (textR r) = st at *
            clear htn
            go_wp2_with fail
            go_ret2
            exact ⟨some ⟨w9'.heap.size, 0, none⟩, bc, by rw [HEP.out]; show _ = Ending.returned (.tuple #[.slice (some ⟨w9'.heap.size, 0, none⟩) (textR r).length bc, .int .i64 ((0 : Nat) : Int)]); rw [HTN.out]; rfl, by rw [HEP.out]; exact HPC.out, by rw [HEP.out]; exact HAP.out, B10.out⟩
theorem go_refrprint : goFn Tryd.prog 12 = true := by kernel_rfl
end Go.Proofs.YtolikoediafkkaaDoor

/- Contract of the reference's Parse of responses. -/
namespace Go.Proofs.YtolikoediafkkaaDoor
open Go.ChangeShapes Go.WideShapes Go.ChangeAt Go.RowKit
set_option linter.unusedVariables false
set_option linter.unusedSimpArgs false

def RefParseRPost (bs : List UInt8) (w : World) (e : Ending) (w' : World) : Prop :=
  ∃ fv A' c', e = .returned (.tuple #[respV (parseR bs).1 fv A' c', .int .i64 ((parseR bs).2 : Int)]) ∧ RespParts fv A' c' (parseR bs).1 w' ∧ Below w.heap.size w w'
theorem statR_short {l : List UInt8} (h : l.length < 12) : statR l = none := by unfold statR; rw [if_neg (by omega)]
theorem statR_long {l : List UInt8} (h : ¬ l.length < 12) : statR l = some (decV ((l.drop 9).take 3) 999) := by unfold statR; rw [if_pos (by omega)]
theorem slice_nine (l : List UInt8) (h : ¬ l.length < 12) (w : World) : (Instr.slice 9 (.string (strOf l)) (some (.int .i64 9)) (some (.int .i64 12)) none).run Tryd.prog w = .ok (.string (strOf ((l.drop 9).take 3))) w := by
  have := run_slice_str w l (some (.int .i64 9)) (some (.int .i64 12)) .i64 .i64 9 12 (.inr rfl) (.inr rfl) (by omega) (by omega)
  rw [this]
theorem allF_false {ls : List (List UInt8)} {x : List UInt8} (h : x ∈ ls) (hx : (fieldL x).2 ≠ 0) : allF ls = false := by
  cases hh : allF ls with
  | false => rfl
  | true => exact absurd ((allF_iff ls).1 hh x h) hx
set_option maxRecDepth 8000 in
set_option maxHeartbeats 4000000 in
theorem refrparse_any (A : Option Addr) (bs : List UInt8) (n c : Nat) (w : World) (hp : PieceOk w ⟨A, c, bs⟩) (hn : bs.length = n) (hl : n ≤ 100000) (hT : PowOk w) :
    Calls Tryd.prog 29 #[.slice A n c] w (RefParseRPost bs w) := by
  obtain ⟨T, hTT⟩ : ∃ T, linesT bs = T := ⟨_, rfl⟩
  obtain ⟨ls, en, ok⟩ := T
  have HC := hideIt (cand_parts (st := statR) hTT)
  have HCC : Hid (∀ C, candL statR bs = C → parseR bs = parseC C bs) := hideIt fun C h => by rw [← parseR_ref, h]
  have HNO : Hid (candL statR bs = none → parseR bs = (RespZ, 10)) := hideIt fun h => by rw [HCC.out _ h]; rfl
  have hbx := below_new w zeroR
  obtain ⟨X, hX⟩ : ∃ X, w.alloc zeroR = X := ⟨_, rfl⟩
  have hzx : RCell X w.heap.size (.int .i64 0) (.slice none 0 0) (.slice none 0 0) := by rw [← hX]; exact RCell.zero w
  rw [hX] at hbx
  have HLI := hideIt (reflines_any A bs n c X (hp.keep hbx) hn hl)
  rw [hTT] at HLI
  have HLF := hideIt (fun (h : ok = true) => lines_facts (show linesT bs = (ls, en, true) by rw [hTT, h]))
  have BX := hideIt hbx
  have ZX := hideIt hzx
  have HX := hideIt hX
  have HP := hideIt hp
  have HN := hideIt hn
  have HTP := hideIt hT
  unfold zeroR at HX
  clear hp hn hT hbx hzx hX hTT
  go_enter Tryd.func29, Tryd.ntmps29
  go_upto_region 1 with fail
  rw [HX.out]
  go_wp2_with fail
  refine HLI.out.mono ?_
  rintro e u1 ⟨v, rfl, hv, hb⟩
  have B1 := hideIt (below_then BX.out hb)
  have Z1 := hideIt (ZX.out.keep hb ZX.out.lt)
  simp only at hv ⊢
  obtain ⟨LA, lc, rfl, hlc1, hlc2, hst⟩ := hv.open
  have ST := hideIt hst
  clear hb HLI hv hst
  obtain ⟨lm, hlm⟩ : ∃ lm, ls.length = lm := ⟨_, rfl⟩
  have HLM := hideIt hlm
  rw [hlm] at hlc1 ⊢
  clear hlm
  cases ok with
  | false =>
    have E := hideIt (HNO.out (HC.out.1 rfl))
    have q0 := Z1.out.fz 0
    have q1 := Z1.out.fz 1
    have q2 := Z1.out.fz 2
    have k0 := Z1.out.c0
    have k1 := Z1.out.c1
    have k2 := Z1.out.c2
    have ZS := hideIt (Z1.out.set (.int .i64 0) (.slice none 0 0) (.slice none 0 0))
    have BS := hideIt (below_setR B1.out (Nat.le_refl _) (.int .i64 0) (.slice none 0 0) (.slice none 0 0))
    go_wp2_with fail
    (try simp only [Exit.inBlock, Exit.then])
    refine bodyPost_ret (results_R2 Tryd.results29 _ _ w.heap.size (.int .i64 0) (.slice none 0 0) (.slice none 0 0) _ rfl rfl (by exact ZS.out)) rfl ?_
    exact ⟨.slice none 0 0, none, 0, by rw [E.out]; rfl, by rw [E.out]; exact RespParts.zero _, BS.out⟩
  | true =>
    by_cases h2 : lm < 2
    · have E := hideIt (HNO.out (HC.out.2.1 (by rw [HLM.out]; exact h2)))
      have h2' : (lm : Int) < 2 := by omega
      have q0 := Z1.out.fz 0
      have q1 := Z1.out.fz 1
      have q2 := Z1.out.fz 2
      have k0 := Z1.out.c0
      have k1 := Z1.out.c1
      have k2 := Z1.out.c2
      have ZS := hideIt (Z1.out.set (.int .i64 0) (.slice none 0 0) (.slice none 0 0))
      have BS := hideIt (below_setR B1.out (Nat.le_refl _) (.int .i64 0) (.slice none 0 0) (.slice none 0 0))
      go_wp2_with fail
      (try simp only [Exit.inBlock, Exit.then])
      refine bodyPost_ret (results_R2 Tryd.results29 _ _ w.heap.size (.int .i64 0) (.slice none 0 0) (.slice none 0 0) _ rfl rfl (by exact ZS.out)) rfl ?_
      exact ⟨.slice none 0 0, none, 0, by rw [E.out]; rfl, by rw [E.out]; exact RespParts.zero _, BS.out⟩
    · have h2' : ¬ (lm : Int) < 2 := by omega
      obtain ⟨f1, f2, f3⟩ := HLF.out rfl
      obtain ⟨x0, hx0⟩ : ∃ x0, ls[0]? = some x0 := ⟨_, List.getElem?_eq_getElem (by have := HLM.out; omega)⟩
      have hg0 : ls.getD 0 [] = x0 := by simp [List.getD, hx0]
      obtain ⟨lb, rfl, hlt, hc⟩ := ST.out (by have := HLM.out; omega)
      have c0 := hc 0 x0 hx0
      have HF2 := hideIt f2
      have HF3 : Hid (en ≤ n) := hideIt (by have := HN.out; omega)
      have HF1 : Hid (lm ≤ n) := hideIt (by have := HN.out; have := HLM.out; omega)
      have z0 : (strOf x0).size = x0.length := strOf_size x0
      have hwm : IntKind.i64.wrap ((lm : Int) - 1) = ((lm - 1 : Nat) : Int) := by
        rw [IntWalk.i64_in _ (by have := HF1.out; omega)]; omega
      have HX0L : Hid (x0.length ≤ 100000) := hideIt (by have := f2 x0 (List.mem_of_getElem? hx0); have := HN.out; omega)
      clear hc f1 f2 f3 hx0
      by_cases h12 : x0.length < 12
      · have E := hideIt (HNO.out (HC.out.2.2.1 (by rw [hg0]; exact statR_short h12)))
        have h12' : ((strOf x0).size : Int) < 12 := by rw [z0]; omega
        clear z0 hg0
        generalize strOf x0 = sx at *
        have q0 := Z1.out.fz 0
        have q1 := Z1.out.fz 1
        have q2 := Z1.out.fz 2
        have k0 := Z1.out.c0
        have k1 := Z1.out.c1
        have k2 := Z1.out.c2
        have ZS := hideIt (Z1.out.set (.int .i64 0) (.slice none 0 0) (.slice none 0 0))
        have BS := hideIt (below_setR B1.out (Nat.le_refl _) (.int .i64 0) (.slice none 0 0) (.slice none 0 0))
        go_wp2_with fail
        (try simp only [Exit.inBlock, Exit.then])
        refine bodyPost_ret (results_R2 Tryd.results29 _ _ w.heap.size (.int .i64 0) (.slice none 0 0) (.slice none 0 0) _ rfl rfl (by exact ZS.out)) rfl ?_
        exact ⟨.slice none 0 0, none, 0, by rw [E.out]; rfl, by rw [E.out]; exact RespParts.zero _, BS.out⟩
      · have h12' : ¬ ((strOf x0).size : Int) < 12 := by rw [z0]; omega
        have hsn := slice_nine x0 h12
        have HST : Hid (statR (ls.getD 0 []) = some (decV ((x0.drop 9).take 3) 999)) := hideIt (by rw [hg0]; exact statR_long h12)
        have HDE := hideIt (fun w => refdec_any (strOf ((x0.drop 9).take 3)) 999 w (by rw [strOf_size, List.length_take]; unfold maxLen; omega) (by decide))
        have e1 : (strOf ((x0.drop 9).take 3)).data.toList = (x0.drop 9).take 3 := by simp [strOf]
        rw [e1] at HDE
        obtain ⟨sv, hsv⟩ : ∃ sv, decV ((x0.drop 9).take 3) 999 = sv := ⟨_, rfl⟩
        rw [hsv] at HST HDE
        generalize decB ((x0.drop 9).take 3) 999 = db at *
        generalize strOf ((x0.drop 9).take 3) = s9 at *
        clear e1 hsv hg0 z0
        generalize strOf x0 = sx at *
        have hpf := HP.out.fits
        have hpm := HP.out.most
        have hpl := HP.out.long
        simp only at hpf hpm hpl
        obtain ⟨A2, t1, t2, t3, t4⟩ := slice_lo A n c en HF3.out (by have := HN.out; omega) HP.out.nil
        have hlen : (bs.drop en).length = n - en := by rw [List.length_drop, HN.out]
        have HP2 : Hid (PieceOk w ⟨A2, c - en, bs.drop en⟩) := hideIt ⟨t2 w _ bs HN.out HP.out.bytes, by simp only; rw [hlen]; have := HN.out; omega, by simp only; omega, by simp only; rw [hlen]; have := HN.out; omega, t4⟩
        have HLE := hideIt hlen
        clear t2 t3 t4 hlen hpf hpm hpl
        generalize hdn : n - en = dn at *
        clear hdn
        generalize c - en = dc at *
        go_wp2_with fail
        refine (HDE.out _).mono ?_
        rintro e u2 ⟨rfl, rfl⟩
        go_upto_region 6 with fail
        have hbn := below_new u1 (.cells #[.int .i64 sv, .slice none 0 0, .slice A2 dn dc] 25)
        have B2 := hideIt (below_then B1.out hbn)
        have Z2 := hideIt (Z1.out.keep hbn Z1.out.lt)
        have G2 := hideIt (RCell.new u1 (.int .i64 sv) (.slice none 0 0) (.slice A2 dn dc))
        have ST2 := hideIt (ST.out.keep hbn)
        have HGQ : Hid (w.heap.size < u1.heap.size) := hideIt Z1.out.lt
        clear hbn HDE c0 hsn
        generalize u1.alloc (.cells #[.int .i64 sv, .slice none 0 0, .slice A2 dn dc] 25) = Y at *
        have HLB : Hid (lb < u1.heap.size) := hideIt hlt
        generalize hg1 : u1.heap.size = g1 at *
        clear hg1 hlt
        have BW : Hid (∀ wr, Below g1 Y wr → Below w.heap.size w wr) := hideIt fun wr hb => B2.out.trans (hb.mono (by have := HGQ.out; omega))
        have ZW : Hid (∀ wr, Below g1 Y wr → RCell wr w.heap.size (.int .i64 0) (.slice none 0 0) (.slice none 0 0)) := hideIt fun wr hb => Z2.out.keep hb HGQ.out
        have HCK : Hid (∀ wr, Below g1 Y wr → ∀ j x, ls[j]? = some x → wr.cell? ⟨lb, j, none⟩ = some (.string (strOf x))) := hideIt fun wr hb j x hx => by
          obtain ⟨b', e', hlt', hc'⟩ := ST2.out (by have := HLM.out; omega)
          cases e'
          exact (hb.cell (p := ⟨lb, j, none⟩) HLB.out).trans (hc' j x hx)
        have HL2 : Hid (2 ≤ lm) := hideIt (by omega)
        clear h2' h12'
        go_wp2_with fail
        go_loopw [10] (fun iv wr => ∃ j : Nat, 1 ≤ j ∧ j ≤ lm - 1 ∧ iv = .int .i64 (j : Int) ∧ (∃ v, RCell wr g1 (.int .i64 sv) v (.slice A2 dn dc) ∧ POwn (g1 + 1) v (doneL (midL ls) (j - 1)) wr) ∧ (∀ y ∈ (midL ls).take (j - 1), (fieldL y).2 = 0) ∧ Below g1 Y wr) (fun iv wr => lm - (intOf iv).toNat)
        case atStart => exact ⟨1, Nat.le_refl _, by have := HL2.out; omega, rfl, ⟨_, G2.out, POwn.nil _ _⟩, by simp, Below.refl _ _⟩
        case round =>
          obtain ⟨j, hj1, hj, rfl, ⟨v, hgc, hov⟩, hall, hbr⟩ := hrel
          have HG := hideIt hgc
          have HO := hideIt hov
          have HALL := hideIt hall
          have BR := hideIt hbr
          have HGW : Hid (g1 ≤ wr.heap.size) := hideIt (Nat.le_of_lt hgc.lt)
          clear hgc hov hall hbr
          have hwj : IntKind.i64.wrap ((j : Int) + 1) = (j : Int) + 1 := IntWalk.i64_in _ (by have := HF1.out; omega)
          have hdl := done_len (midL ls) (j - 1)
          by_cases hlt : j < lm - 1
          · have hji : (j : Int) < ((lm - 1 : Nat) : Int) := by omega
            obtain ⟨x, hx⟩ : ∃ x, ls[j]? = some x := ⟨_, List.getElem?_eq_getElem (by have := HLM.out; omega)⟩
            have hxm : (midL ls)[j - 1]? = some x := by
              unfold midL
              rw [List.getElem?_take, if_pos (by have := HLM.out; omega), List.getElem?_drop, show 1 + (j - 1) = j by omega]
              exact hx
            have c1 : wr.cell? ⟨lb, j, none⟩ = some (.string (strOf x)) := (HCK.out wr BR.out j x hx)
            have HF := hideIt (fun w => reffield_any x w (by have := HF2.out x (List.mem_of_getElem? hx); have := HN.out; omega))
            have DS : Hid (doneL (midL ls) (j + 1 - 1) = doneL (midL ls) (j - 1) ++ [(fieldL x).1]) := hideIt (by rw [show j + 1 - 1 = (j - 1) + 1 by omega]; exact done_succ (midL ls) (j - 1) x hxm)
            have HXM := hideIt hxm
            clear hx hxm
            by_cases hz : (fieldL x).2 = 0
            · have TS : Hid (∀ y ∈ (midL ls).take (j + 1 - 1), (fieldL y).2 = 0) := hideIt (by rw [show j + 1 - 1 = (j - 1) + 1 by omega]; exact take_succ_all HALL.out HXM.out hz)
              rw [hz] at HF
              generalize (fieldL x).1 = p at *
              unfold pairV errI at HF
              clear hz
              have hdl' : Hid ((doneL (midL ls) (j - 1)).length ≤ 100000) := hideIt (by have := HF1.out; omega)
              generalize doneL (midL ls) (j - 1) = done at *
              go_wp2_with fail
              refine (HF.out _).mono ?_
              rintro e u3 ⟨rfl, hb1⟩
              have hbn := below_new u3 (.cells #[.string (strOf p.1), .string (strOf p.2)] 41)
              have P1 := hideIt (PCell.new u3 p)
              have B3 := hideIt (below_thenB (below_thenB BR.out HGW.out hb1) (by have := (HG.out.keep hb1 HG.out.lt).lt; omega) hbn)
              have O3 := hideIt ((HO.out.keep hb1).keep hbn)
              have G3 := hideIt ((HG.out.keep hb1 HG.out.lt).keep hbn (HG.out.keep hb1 HG.out.lt).lt)
              have HGU : Hid (g1 < u3.heap.size) := hideIt (HG.out.keep hb1 HG.out.lt).lt
              clear hb1 hbn HO HG HF BR c1
              go_upto_region 12 with fail
              generalize u3.alloc (.cells #[.string (strOf p.1), .string (strOf p.2)] 41) = X1 at *
              generalize u3.heap.size = g2 at *
              have q0 := P1.out.cell0
              have q1 := P1.out.cell1
              have k1 := G3.out.c1
              obtain ⟨vA, vc, rfl, _, _, _, _⟩ := O3.out.open
              go_wp2_with (at_builtin; refine wpList_appP1 rfl (.tmp 68) (.tmp 70) rfl (g1 + 1) _ done p rfl O3.out rfl hdl'.out (by exact G3.out.lt) ?_)
              intro v4 w4 o4 g4
              have O4 := hideIt o4
              obtain ⟨wA, wc, hv4, _, _, _, _⟩ := o4.open
              have B4 : Hid (Below g1 Y w4) := hideIt (B3.out.trans (g4 g1 (by omega)))
              have G4 : RCell w4 g1 (.int .i64 sv) (.slice vA done.length vc) (.slice A2 dn dc) := ((g4 (g1 + 1) (Nat.le_refl _)).block g1 (by omega)).trans G3.out
              have f1 := G4.fz 1
              have k1' := G4.c1
              have GS := hideIt (G4.set1 v4)
              have BS : Hid (Below g1 Y (w4.setCell ⟨g1, 1, none⟩ v4)) := hideIt (B4.out.setCell (by exact Nat.le_refl _) v4)
              have OS : Hid (POwn (g1 + 1) v4 (doneL (midL ls) (j + 1 - 1)) (w4.setCell ⟨g1, 1, none⟩ v4)) := hideIt (by
                rw [DS.out]
                exact o4.block fun k hk => heap_setCell_past _ _ _ _ _ (fun e => by have := (o4.lt k hk).1; omega))
              subst hv4
              clear o4 g4 q0 q1 k1 P1 B3 O3 O4 G4 G3 B4
              generalize (done ++ [p]).length = pl at *
              go_wp2_with fail
              go_roundw
              case rel => exact ⟨j + 1, by omega, by omega, by go_num, ⟨_, GS.out, OS.out⟩, TS.out, BS.out⟩
              case measure => simp [intOf]; omega
            · have E := hideIt (HNO.out (HC.out.2.2.2.1 (allF_false (List.mem_of_getElem? HXM.out) hz)))
              obtain ⟨m, hm⟩ : ∃ m, (fieldL x).2 = m := ⟨_, rfl⟩
              rw [hm] at HF hz
              have hne : ((m : Int) == 0) = false := by rw [beq_eq_false_iff_ne]; omega
              have hne2 : ¬ (m : Int) = 0 := by omega
              generalize (fieldL x).1 = p at *
              unfold pairV errI at HF
              clear hm hz DS
              go_wp2_with fail
              refine (HF.out _).mono ?_
              rintro e u3 ⟨rfl, hb1⟩
              have hbn := below_new u3 (.cells #[.string (strOf p.1), .string (strOf p.2)] 41)
              have BY3 := below_thenB (below_thenB BR.out HGW.out hb1) (by have := (HG.out.keep hb1 HG.out.lt).lt; omega) hbn
              have B3 := hideIt (BW.out _ BY3)
              have Z3 := hideIt (ZW.out _ BY3)
              clear BY3
              clear hb1 hbn HO HG HF BR c1
              go_upto_region 11 with fail
              generalize u3.alloc (.cells #[.string (strOf p.1), .string (strOf p.2)] 41) = X1 at *
              have q0 := Z3.out.fz 0
              have q1 := Z3.out.fz 1
              have q2 := Z3.out.fz 2
              have k0 := Z3.out.c0
              have k1 := Z3.out.c1
              have k2 := Z3.out.c2
              have ZS := hideIt (Z3.out.set (.int .i64 0) (.slice none 0 0) (.slice none 0 0))
              have BS := hideIt (below_setR B3.out (Nat.le_refl _) (.int .i64 0) (.slice none 0 0) (.slice none 0 0))
              go_wp2_with fail
              (try simp only [Exit.inBlock, Exit.then])
              refine bodyPost_ret (results_R2 Tryd.results29 _ _ w.heap.size (.int .i64 0) (.slice none 0 0) (.slice none 0 0) _ rfl rfl (by exact ZS.out)) rfl ?_
              exact ⟨.slice none 0 0, none, 0, by rw [E.out]; rfl, by rw [E.out]; exact RespParts.zero _, BS.out⟩
          · obtain rfl : j = lm - 1 := by omega
            have hji : ¬ ((lm - 1 : Nat) : Int) < ((lm - 1 : Nat) : Int) := by omega
            have hml : (midL ls).length = lm - 1 - 1 := by unfold midL; rw [List.length_take, List.length_drop]; have := HLM.out; omega
            have htk : (midL ls).take (lm - 1 - 1) = midL ls := List.take_of_length_le (by omega)
            have haf : allF (midL ls) = true := (allF_iff _).2 (by have := HALL.out; rw [htk] at this; exact this)
            obtain ⟨r, hr1, hr2, hr3, hr⟩ : ∃ r : RespL, r.status = sv ∧ r.fs = (midL ls).map (fun x => (fieldL x).1) ∧ r.body = bs.drop en ∧ candL statR bs = some r := ⟨_, rfl, rfl, rfl, HC.out.2.2.2.2 (by trivial) (by have := HLM.out; have := HL2.out; omega) sv HST.out haf⟩
            have hdo : doneL (midL ls) (lm - 1 - 1) = r.fs := by unfold doneL; rw [htk, hr2]
            have HO2 := HO.out
            rw [hdo] at HO2
            obtain ⟨vA, vc, rfl, _, _, _, _⟩ := HO2.open
            have HOR := hideIt HO2
            obtain ⟨g1', g2', g3'⟩ := cand_small hr
            have HSM : Hid (r.fs.length ≤ 40 → ∀ p ∈ r.fs, p.1.length ≤ 400000 ∧ p.2.length ≤ 400000) := hideIt fun _ p hp => by
              have := g2' p hp
              have := HN.out
              exact ⟨by omega, by omega⟩
            have HPC : Hid (parseR bs = parseC (some r) bs) := hideIt (HCC.out _ hr)
            have hbl : r.body.length = dn := by rw [hr3]; exact HLE.out
            have BWR := hideIt (BW.out wr BR.out)
            have ZWR := hideIt (ZW.out wr BR.out)
            have HPT : Hid (∀ w', Below w.heap.size w w' → PieceOk w' ⟨A2, dc, r.body⟩) := hideIt fun w' hb => by rw [hr3]; exact HP2.out.keep hb
            have HPRI := hideIt (refrprint_any r (.slice vA r.fs.length vc) A2 dc wr ⟨HO2.reads, HPT.out wr BWR.out⟩ HSM.out (HTP.out.keep BWR.out))
            unfold respV at HPRI
            rw [hr1, hbl] at HPRI
            have HR1 := hideIt hr1
            have HBL := hideIt hbl
            have HAP : Hid (Apart A2 r.body w.heap.size) := hideIt (by rw [hr3]; exact HP2.out.apart (Nat.le_refl _))
            have d0 := HG.out.c0
            have d1 := HG.out.c1
            have d2 := HG.out.c2
            obtain ⟨P, hP⟩ : ∃ P, printR r = P := ⟨_, rfl⟩
            obtain ⟨px, pk⟩ := P
            have HPP := hideIt hP
            unfold RefPrintRPost at HPRI
            rw [hP] at HPRI
            simp only at HPRI
            clear hP hml htk haf hr1 hr2 hr3 hr hdo HO2 HO g1' g2' g3' hbl hdl
            go_wp2_with fail
            refine HPRI.out.mono ?_
            rintro e u4 ⟨A4, c4, rfl, hpp, hap, hb⟩
            have B5 := hideIt (below_then BWR.out hb)
            have Z5 := hideIt (ZWR.out.keep hb ZWR.out.lt)
            have G5 := hideIt (HG.out.keep hb HG.out.lt)
            have O5 := hideIt (HOR.out.keep hb)
            have hv1 := conv_bytes A4 px px.length c4 _ u4 hpp.bytes rfl
            have hv2 := conv_bytes A bs n c _ u4 (HP.out.keep B5.out).bytes HN.out
            clear hb hpp hap HPRI d0 d1 d2 BWR ZWR HOR
            by_cases hk : pk = 0
            · subst hk
              have hbb : ((strOf px).toList == (strOf bs).toList) = decide (px = bs) := by rw [strOf_toList, strOf_toList]; by_cases h : px = bs <;> simp [h]
              by_cases hxb : px = bs
              · have E : Hid (parseR bs = (r, 0)) := hideIt (by rw [HPC.out]; unfold parseC; simp only; rw [HPP.out, if_pos ⟨rfl, hxb⟩])
                rw [decide_eq_true hxb] at hbb
                generalize strOf px = sx1 at *
                generalize strOf bs = sx2 at *
                clear hxb
                have q0 := Z5.out.fz 0
                have q1 := Z5.out.fz 1
                have q2 := Z5.out.fz 2
                have k0 := Z5.out.c0
                have k1 := Z5.out.c1
                have k2 := Z5.out.c2
                have d0 := G5.out.c0
                have d1 := G5.out.c1
                have d2 := G5.out.c2
                have ZS := hideIt (Z5.out.set (.int .i64 sv) (.slice vA r.fs.length vc) (.slice A2 dn dc))
                have BS := hideIt (below_setR B5.out (Nat.le_refl _) (.int .i64 sv) (.slice vA r.fs.length vc) (.slice A2 dn dc))
                have GG := grown_setR u4 w.heap.size (.int .i64 sv) (.slice vA r.fs.length vc) (.slice A2 dn dc)
                have PS : Hid (PieceOk _ ⟨A2, dc, r.body⟩) := hideIt ((HPT.out u4 B5.out).grown GG HAP.out)
                have FS := hideIt (O5.out.block fun k hk => GG.block k (O5.out.lt k hk).2 (fun e => by cases e; have := (O5.out.lt _ hk).1; have := HGQ.out; omega))
                clear GG
                generalize r.fs.length = fl at *
                go_wp2_with fail
                (try simp only [Exit.inBlock, Exit.then])
                refine bodyPost_ret (results_R2 Tryd.results29 _ _ w.heap.size (.int .i64 sv) (.slice vA fl vc) (.slice A2 dn dc) _ rfl rfl (by exact ZS.out)) rfl ?_
                refine ⟨.slice vA fl vc, A2, dc, ?_, ?_, BS.out⟩
                · rw [E.out]
                  show _ = Ending.returned (.tuple #[.agg #[.int .i64 r.status, .slice vA fl vc, .slice A2 r.body.length dc], .int .i64 ((0 : Nat) : Int)])
                  rw [HBL.out, HR1.out]
                  rfl
                · rw [E.out]
                  exact ⟨FS.out.reads, PS.out⟩
              · have E : Hid (parseR bs = (RespZ, 10)) := hideIt (by rw [HPC.out]; unfold parseC; simp only; rw [HPP.out, if_neg (fun h => hxb h.2)])
                rw [decide_eq_false hxb] at hbb
                generalize strOf px = sx1 at *
                generalize strOf bs = sx2 at *
                clear hxb
                have q0 := Z5.out.fz 0
                have q1 := Z5.out.fz 1
                have q2 := Z5.out.fz 2
                have k0 := Z5.out.c0
                have k1 := Z5.out.c1
                have k2 := Z5.out.c2
                have ZS := hideIt (Z5.out.set (.int .i64 0) (.slice none 0 0) (.slice none 0 0))
                have BS := hideIt (below_setR B5.out (Nat.le_refl _) (.int .i64 0) (.slice none 0 0) (.slice none 0 0))
                go_wp2_with fail
                (try simp only [Exit.inBlock, Exit.then])
                refine bodyPost_ret (results_R2 Tryd.results29 _ _ w.heap.size (.int .i64 0) (.slice none 0 0) (.slice none 0 0) _ rfl rfl (by exact ZS.out)) rfl ?_
                exact ⟨.slice none 0 0, none, 0, by rw [E.out]; rfl, by rw [E.out]; exact RespParts.zero _, BS.out⟩
            · have E : Hid (parseR bs = (RespZ, 10)) := hideIt (by rw [HPC.out]; unfold parseC; simp only; rw [HPP.out, if_neg (fun h => hk h.1)])
              have hne : ((pk : Int) == 0) = false := by rw [beq_eq_false_iff_ne]; omega
              have hne2 : ¬ (pk : Int) = 0 := by omega
              clear hk
              have q0 := Z5.out.fz 0
              have q1 := Z5.out.fz 1
              have q2 := Z5.out.fz 2
              have k0 := Z5.out.c0
              have k1 := Z5.out.c1
              have k2 := Z5.out.c2
              have ZS := hideIt (Z5.out.set (.int .i64 0) (.slice none 0 0) (.slice none 0 0))
              have BS := hideIt (below_setR B5.out (Nat.le_refl _) (.int .i64 0) (.slice none 0 0) (.slice none 0 0))
              go_wp2_with fail
              (try simp only [Exit.inBlock, Exit.then])
              refine bodyPost_ret (results_R2 Tryd.results29 _ _ w.heap.size (.int .i64 0) (.slice none 0 0) (.slice none 0 0) _ rfl rfl (by exact ZS.out)) rfl ?_
              exact ⟨.slice none 0 0, none, 0, by rw [E.out]; rfl, by rw [E.out]; exact RespParts.zero _, BS.out⟩
theorem go_refrparse : goFn Tryd.prog 29 = true := by kernel_rfl
end Go.Proofs.YtolikoediafkkaaDoor
