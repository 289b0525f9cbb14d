/- Contract of http.asked. -/
import Derived.Test.YtbojigimldfghaaDoorHttpPath
import Derived.Test.YtbojigimldfghaaDoorHttpNeed
import Derived.Test.YtbojigimldfghaaDoorHeadToken
namespace Go.Proofs.YtbojigimldfghaaDoor
open Go.ChangeShapes Go.WideShapes Go.ChangeAt Go.RowKit
set_option linter.unusedVariables false
set_option linter.unusedSimpArgs false

/-! ### asked -/
def verT : ByteArray := ⟨#[72, 84, 84, 80, 47, 49, 46, 49]⟩
theorem firstL_len (l : List UInt8) : (firstL l).1.1.length ≤ 2000 ∧ (firstL l).1.2.length ≤ 2000 := by
  by_cases h : (firstL l).2 = 0
  · have := firstL_ok h; omega
  · have e : (firstL l).1 = PairZ := by
      unfold firstL at h ⊢
      by_cases h0 : 2000 < l.length
      · rw [if_pos h0]
      · rw [if_neg h0] at h ⊢
        cases hw : wordsL l with
        | none => rfl
        | some z =>
          rw [hw] at h
          cases hz : firstOk z
          · simp [hz]
          · simp [hz] at h
    rw [e]; simp [PairZ]
/-- what a function of requests answers: v, or it panics with an error -/
def endE (n : Nat) (v : Value) : Ending := if n = 0 then .returned v else .panicked [wrongE n]
set_option maxRecDepth 8000 in
set_option maxHeartbeats 4000000 in
theorem asked_any (l : List UInt8) (w : World) (hl : l.length ≤ 100000) (hm : MaxOk w) :
    Calls Tryd.prog 51 #[.string (strOf l)] w fun e w' => e = endE (firstL l).2 (.tuple #[.string (strOf (firstL l).1.1), .string (strOf (firstL l).1.2)]) ∧ Below w.heap.size w w' := by
  have hsz := strOf_size l
  obtain ⟨RR, hRR⟩ : ∃ R, firstL l = R := ⟨_, rfl⟩
  have HR := hideIt hRR
  rw [hRR]
  clear hRR
  by_cases hlong : 2000 < l.length
  · have E : Hid (RR = (PairZ, 3)) := hideIt (by rw [← HR.out, firstL, if_pos hlong])
    have h1 : ¬ (l.length : Int) ≤ 2000 := by omega
    have HN := hideIt (fun w => need_bad 3 w)
    clear hlong hm
    go_enter Tryd.func51, Tryd.ntmps51
    go_wp2_with fail
    refine (HN.out _).mono ?_
    rintro e w1 ⟨rfl, rfl⟩
    go_wp2_with fail
    exact ⟨rfl, by rw [E.out]; rfl, Below.refl _ _⟩
  have h1 : (l.length : Int) ≤ 2000 := by omega
  obtain ⟨d, u, hcv, hq, hb⟩ := conv_str w l (by omega)
  obtain ⟨W, hW⟩ : ∃ W, u.alloc (.cells #[.slice (some ⟨w.heap.size, 0, none⟩) l.length d, .int .i64 0] 71) = W := ⟨_, rfl⟩
  have hbW : Below u.heap.size u W := by rw [← hW]; exact below_new u _
  have D0 : Hid (RdB u.heap.size (some ⟨w.heap.size, 0, none⟩) l.length d 0 W) := hideIt (by rw [← hW]; exact RdB.new u _ _ _)
  have Q0 := hideIt (hq.keep hbW)
  have B0 := hideIt (below_then hb hbW)
  have HG : Hid (w.heap.size ≤ u.heap.size) := hideIt hb.size
  have HAP : Hid (Apart (some ⟨w.heap.size, 0, none⟩) l u.heap.size) := hideIt (hq.apart (Nat.le_refl _))
  have HW := hideIt hW
  have HM := hideIt hm
  have HNG : Hid (u.heap.size ≠ 0) := hideIt (by have := hm.lt; have := hb.size; omega)
  have HN3 := hideIt (fun w => need_ok 3 w)
  have HL : Hid (l.length ≤ 2000) := hideIt (by omega)
  clear hbW hq hb hW hm
  generalize hgg : u.heap.size = g at *
  have HGG := hideIt hgg
  clear hgg
  cases hc : cutS [32] l with
  | none =>
    have E : Hid (RR = (PairZ, 11)) := hideIt (by rw [← HR.out, firstL, if_neg hlong, wordsL, hc])
    have HU : Hid (∀ wr, RdB g (some ⟨w.heap.size, 0, none⟩) l.length d 0 wr → PieceOk wr ⟨some ⟨w.heap.size, 0, none⟩, d, l⟩ → MaxOk wr → Calls Tryd.prog 40 #[.pointer (some ⟨g, 0, none⟩), .string ⟨#[32]⟩] wr fun e w' => e = .returned (.tuple #[.string ⟨#[]⟩, .bool false]) ∧ Below wr.heap.size wr w') :=
      hideIt fun wr hr hp hm => until_none g _ l l.length d 0 [32] wr hr hp rfl (Nat.zero_le _) (by have := HL.out; omega) (by simp) (by simp) hm (by rw [List.drop_zero]; exact hc)
    have HNB := hideIt (fun w => need_bad 11 w)
    clear hc hlong
    go_enter Tryd.func51, Tryd.ntmps51
    go_wp2_with fail
    refine (HN3.out _).mono ?_
    rintro e w1 ⟨rfl, rfl⟩
    go_wp2_with fail
    rw [HW.out, HGG.out]
    refine (HU.out W D0.out Q0.out (HM.out.keep B0.out)).mono ?_
    rintro e u1 ⟨rfl, hb⟩
    have B1 := hideIt (below_then B0.out hb)
    have D1 := hideIt (D0.out.keep hb)
    have Q1 := hideIt (Q0.out.keep hb)
    clear hb
    go_wp2_with fail
    refine (HU.out u1 D1.out Q1.out (HM.out.keep B1.out)).mono ?_
    rintro e u2 ⟨rfl, hb⟩
    have B2 := hideIt (below_then B1.out hb)
    clear hb
    go_wp2_with fail
    refine (HNB.out _).mono ?_
    rintro e w1 ⟨rfl, rfl⟩
    go_wp2_with fail
    exact ⟨rfl, by rw [E.out]; rfl, B2.out⟩
  | some z =>
    obtain ⟨m, r⟩ := z
    have hcl := cut_len hc
    have hct := (cut_take hc).2
    simp only [List.length_cons, List.length_nil] at hcl hct
    have HU1 : Hid (Calls Tryd.prog 40 #[.pointer (some ⟨g, 0, none⟩), .string ⟨#[32]⟩] W fun e w' => e = .returned (.tuple #[.string (strOf m), .bool true]) ∧ RdB g (some ⟨w.heap.size, 0, none⟩) l.length d (0 + m.length + 1) w' ∧ W.grownBy w' (some g)) :=
      hideIt (until_some g _ l l.length d 0 [32] m r W D0.out Q0.out rfl (Nat.zero_le _) (by have := HL.out; omega) (by simp) (by simp) (HM.out.keep B0.out) HAP.out (by rw [List.drop_zero]; exact hc))
    have hdr : l.drop (0 + m.length + 1) = r := by rw [← hct]; congr 1; omega
    cases hc2 : cutS [32] r with
    | none =>
      have E : Hid (RR = (PairZ, 11)) := hideIt (by rw [← HR.out, firstL, if_neg hlong, wordsL, hc]; simp [hc2])
      have HU : Hid (∀ wr, RdB g (some ⟨w.heap.size, 0, none⟩) l.length d (0 + m.length + 1) wr → PieceOk wr ⟨some ⟨w.heap.size, 0, none⟩, d, l⟩ → MaxOk wr → Calls Tryd.prog 40 #[.pointer (some ⟨g, 0, none⟩), .string ⟨#[32]⟩] wr fun e w' => e = .returned (.tuple #[.string ⟨#[]⟩, .bool false]) ∧ Below wr.heap.size wr w') :=
        hideIt fun wr hr hp hm => until_none g _ l l.length d _ [32] wr hr hp rfl (by omega) (by have := HL.out; omega) (by simp) (by simp) hm (by rw [hdr]; exact hc2)
      have HNB := hideIt (fun w => need_bad 11 w)
      clear hc hc2 hlong hcl hct hdr
      generalize 0 + m.length + 1 = k1 at *
      go_enter Tryd.func51, Tryd.ntmps51
      go_wp2_with fail
      refine (HN3.out _).mono ?_
      rintro e w1 ⟨rfl, rfl⟩
      go_wp2_with fail
      rw [HW.out, HGG.out]
      refine HU1.out.mono ?_
      rintro e u1 ⟨rfl, hr, hg⟩
      have B1 := hideIt (below_grown B0.out hg HG.out)
      have Q1 := hideIt (Q0.out.grown hg HAP.out)
      have M1 := hideIt ((HM.out.keep B0.out).grown hg HNG.out)
      have D1 := hideIt hr
      clear hr hg
      go_wp2_with fail
      refine (HU.out u1 D1.out Q1.out M1.out).mono ?_
      rintro e u2 ⟨rfl, hb⟩
      have B2 := hideIt (below_then B1.out hb)
      clear hb
      go_wp2_with fail
      refine (HNB.out _).mono ?_
      rintro e w1 ⟨rfl, rfl⟩
      go_wp2_with fail
      exact ⟨rfl, by rw [E.out]; rfl, B2.out⟩
    | some z2 =>
      obtain ⟨p, v⟩ := z2
      have hcl2 := cut_len hc2
      have hct2 := (cut_take hc2).2
      simp only [List.length_cons, List.length_nil] at hcl2 hct2
      have HU2 : Hid (∀ wr, RdB g (some ⟨w.heap.size, 0, none⟩) l.length d (0 + m.length + 1) wr → PieceOk wr ⟨some ⟨w.heap.size, 0, none⟩, d, l⟩ → MaxOk wr → Calls Tryd.prog 40 #[.pointer (some ⟨g, 0, none⟩), .string ⟨#[32]⟩] wr fun e w' => e = .returned (.tuple #[.string (strOf p), .bool true]) ∧ RdB g (some ⟨w.heap.size, 0, none⟩) l.length d (0 + m.length + 1 + p.length + 1) w' ∧ wr.grownBy w' (some g)) :=
        hideIt fun wr hr hp hm => until_some g _ l l.length d _ [32] p v wr hr hp rfl (by omega) (by have := HL.out; omega) (by simp) (by simp) hm HAP.out (by rw [hdr]; exact hc2)
      have hdr2 : l.drop (0 + m.length + 1 + p.length + 1) = v := by rw [← hct2, ← hdr, List.drop_drop]; congr 1
      obtain ⟨A1, s1, s2, s3, s4⟩ := slice_lo (some ⟨w.heap.size, 0, none⟩) l.length d (0 + m.length + 1 + p.length + 1) (by omega) (by have := Q0.out.fits; simpa using this) (fun h => by cases h)
      have HREST : Hid (∀ wr, RdB g (some ⟨w.heap.size, 0, none⟩) l.length d (0 + m.length + 1 + p.length + 1) wr → Calls Tryd.prog 57 #[.pointer (some ⟨g, 0, none⟩)] wr fun e w' => e = .returned (.slice A1 (l.length - (0 + m.length + 1 + p.length + 1)) (d - (0 + m.length + 1 + p.length + 1))) ∧ Below wr.heap.size wr w') :=
        hideIt fun wr hr => rest_any g _ A1 _ _ _ _ _ wr hr s1
      have HCV : Hid (∀ wr, PieceOk wr ⟨some ⟨w.heap.size, 0, none⟩, d, l⟩ → (convert 22 9 (.slice A1 (l.length - (0 + m.length + 1 + p.length + 1)) (d - (0 + m.length + 1 + p.length + 1)))).run Tryd.prog wr = .ok (.string (strOf v)) wr) :=
        hideIt fun wr hp => conv_bytes A1 v _ _ _ wr (by have := s2 wr _ l rfl hp.bytes; rwa [hdr2] at this) (by rw [← hdr2, List.length_drop])
      have EW : Hid (RR = if firstOk (m, p, v) then ((m, p), 0) else (PairZ, 11)) := hideIt (by rw [← HR.out, firstL, if_neg hlong, wordsL, hc]; simp [hc2])
      have HNB := hideIt (fun w => need_bad 11 w)
      have HNO := hideIt (fun w => need_ok 11 w)
      have HT := hideIt (fun w => token_any m w (by have := HL.out; omega))
      have HPA := hideIt (fun w => isPath_any p w (by have := HL.out; omega))
      clear hc hc2 hlong hcl hct hdr hcl2 hct2 hdr2 s1 s2 s3 s4
      generalize 0 + m.length + 1 + p.length + 1 = k2 at *
      generalize 0 + m.length + 1 = k1 at *
      generalize l.length - k2 = m2 at *
      generalize d - k2 = c2 at *
      have PRE : ∀ (K : World → Prop), (∀ u4, Below w.heap.size w u4 → (convert 22 9 (.slice A1 m2 c2)).run Tryd.prog u4 = .ok (.string (strOf v)) u4 → K u4) → True := fun _ _ => trivial
      clear PRE
      by_cases hv : v = verL
      · subst hv
        have hqv : ((strOf verL).toList == [72, 84, 84, 80, 47, 49, 46, 49]) = true := by rw [strOf_toList]; rfl
        unfold firstOk at EW
        simp only [decide_true, Bool.true_and] at EW
        have hver : strOf verL = ⟨#[72, 84, 84, 80, 47, 49, 46, 49]⟩ := rfl
        rw [hver] at HCV
        clear hver hqv
        cases ht : tokenL m
        · rw [ht] at EW HT
          simp only [Bool.false_and] at EW
          clear ht HPA
          go_enter Tryd.func51, Tryd.ntmps51
          go_wp2_with fail
          refine (HN3.out _).mono ?_
          rintro e w1 ⟨rfl, rfl⟩
          go_wp2_with fail
          rw [HW.out, HGG.out]
          refine HU1.out.mono ?_
          rintro e u1 ⟨rfl, hr, hg⟩
          have B1 := hideIt (below_grown B0.out hg HG.out)
          have Q1 := hideIt (Q0.out.grown hg HAP.out)
          have M1 := hideIt ((HM.out.keep B0.out).grown hg HNG.out)
          have D1 := hideIt hr
          clear hr hg
          go_wp2_with fail
          refine (HU2.out u1 D1.out Q1.out M1.out).mono ?_
          rintro e u2 ⟨rfl, hr, hg⟩
          have B2 := hideIt (below_grown B1.out hg HG.out)
          have Q2 := hideIt (Q1.out.grown hg HAP.out)
          have D2 := hideIt hr
          clear hr hg
          go_wp2_with fail
          refine (HREST.out u2 D2.out).mono ?_
          rintro e u3 ⟨rfl, hb⟩
          have B3 := hideIt (below_then B2.out hb)
          have hcv3 := HCV.out u3 (Q2.out.keep hb)
          clear hb
          go_wp2_with fail
          refine (HNO.out _).mono ?_
          rintro e w1 ⟨rfl, rfl⟩
          clear hcv3
          go_wp2_with fail
          refine (HT.out _).mono ?_
          rintro e u4 ⟨rfl, hb⟩
          have B4 := hideIt (below_then B3.out hb)
          clear hb
          go_wp2_with fail
          refine (HNB.out _).mono ?_
          rintro e w1 ⟨rfl, rfl⟩
          go_wp2_with fail
          exact ⟨rfl, by rw [EW.out]; rfl, B4.out⟩
        · rw [ht] at EW HT
          simp only [Bool.true_and] at EW
          clear ht
          cases hpa : pathL p
          · rw [hpa] at EW HPA
            clear hpa
            go_enter Tryd.func51, Tryd.ntmps51
            go_wp2_with fail
            refine (HN3.out _).mono ?_
            rintro e w1 ⟨rfl, rfl⟩
            go_wp2_with fail
            rw [HW.out, HGG.out]
            refine HU1.out.mono ?_
            rintro e u1 ⟨rfl, hr, hg⟩
            have B1 := hideIt (below_grown B0.out hg HG.out)
            have Q1 := hideIt (Q0.out.grown hg HAP.out)
            have M1 := hideIt ((HM.out.keep B0.out).grown hg HNG.out)
            have D1 := hideIt hr
            clear hr hg
            go_wp2_with fail
            refine (HU2.out u1 D1.out Q1.out M1.out).mono ?_
            rintro e u2 ⟨rfl, hr, hg⟩
            have B2 := hideIt (below_grown B1.out hg HG.out)
            have Q2 := hideIt (Q1.out.grown hg HAP.out)
            have D2 := hideIt hr
            clear hr hg
            go_wp2_with fail
            refine (HREST.out u2 D2.out).mono ?_
            rintro e u3 ⟨rfl, hb⟩
            have B3 := hideIt (below_then B2.out hb)
            have hcv3 := HCV.out u3 (Q2.out.keep hb)
            clear hb
            go_wp2_with fail
            refine (HNO.out _).mono ?_
            rintro e w1 ⟨rfl, rfl⟩
            clear hcv3
            go_wp2_with fail
            refine (HT.out _).mono ?_
            rintro e u4 ⟨rfl, hb⟩
            have B4 := hideIt (below_then B3.out hb)
            clear hb
            go_wp2_with fail
            refine (HPA.out _).mono ?_
            rintro e u5 ⟨rfl, hb⟩
            have B5 := hideIt (below_then B4.out hb)
            clear hb
            go_wp2_with fail
            refine (HNB.out _).mono ?_
            rintro e w1 ⟨rfl, rfl⟩
            go_wp2_with fail
            exact ⟨rfl, by rw [EW.out]; rfl, B5.out⟩
          · rw [hpa] at EW HPA
            clear hpa
            go_enter Tryd.func51, Tryd.ntmps51
            go_wp2_with fail
            refine (HN3.out _).mono ?_
            rintro e w1 ⟨rfl, rfl⟩
            go_wp2_with fail
            rw [HW.out, HGG.out]
            refine HU1.out.mono ?_
            rintro e u1 ⟨rfl, hr, hg⟩
            have B1 := hideIt (below_grown B0.out hg HG.out)
            have Q1 := hideIt (Q0.out.grown hg HAP.out)
            have M1 := hideIt ((HM.out.keep B0.out).grown hg HNG.out)
            have D1 := hideIt hr
            clear hr hg
            go_wp2_with fail
            refine (HU2.out u1 D1.out Q1.out M1.out).mono ?_
            rintro e u2 ⟨rfl, hr, hg⟩
            have B2 := hideIt (below_grown B1.out hg HG.out)
            have Q2 := hideIt (Q1.out.grown hg HAP.out)
            have D2 := hideIt hr
            clear hr hg
            go_wp2_with fail
            refine (HREST.out u2 D2.out).mono ?_
            rintro e u3 ⟨rfl, hb⟩
            have B3 := hideIt (below_then B2.out hb)
            have hcv3 := HCV.out u3 (Q2.out.keep hb)
            clear hb
            go_wp2_with fail
            refine (HNO.out _).mono ?_
            rintro e w1 ⟨rfl, rfl⟩
            clear hcv3
            go_wp2_with fail
            refine (HT.out _).mono ?_
            rintro e u4 ⟨rfl, hb⟩
            have B4 := hideIt (below_then B3.out hb)
            clear hb
            go_wp2_with fail
            refine (HPA.out _).mono ?_
            rintro e u5 ⟨rfl, hb⟩
            have B5 := hideIt (below_then B4.out hb)
            clear hb
            go_wp2_with fail
            refine (HNO.out _).mono ?_
            rintro e w1 ⟨rfl, rfl⟩
            go_wp2_with fail
            go_ret2
            exact ⟨by rw [EW.out]; rfl, B5.out⟩
      · have hqv : ((strOf v).toList == [72, 84, 84, 80, 47, 49, 46, 49]) = false := by rw [strOf_toList, beq_eq_false_iff_ne]; exact hv
        unfold firstOk at EW
        simp only [decide_eq_false hv, Bool.false_and] at EW
        clear hv HT HPA
        go_enter Tryd.func51, Tryd.ntmps51
        go_wp2_with fail
        refine (HN3.out _).mono ?_
        rintro e w1 ⟨rfl, rfl⟩
        go_wp2_with fail
        rw [HW.out, HGG.out]
        refine HU1.out.mono ?_
        rintro e u1 ⟨rfl, hr, hg⟩
        have B1 := hideIt (below_grown B0.out hg HG.out)
        have Q1 := hideIt (Q0.out.grown hg HAP.out)
        have M1 := hideIt ((HM.out.keep B0.out).grown hg HNG.out)
        have D1 := hideIt hr
        clear hr hg
        go_wp2_with fail
        refine (HU2.out u1 D1.out Q1.out M1.out).mono ?_
        rintro e u2 ⟨rfl, hr, hg⟩
        have B2 := hideIt (below_grown B1.out hg HG.out)
        have Q2 := hideIt (Q1.out.grown hg HAP.out)
        have D2 := hideIt hr
        clear hr hg
        go_wp2_with fail
        refine (HREST.out u2 D2.out).mono ?_
        rintro e u3 ⟨rfl, hb⟩
        have B3 := hideIt (below_then B2.out hb)
        have hcv3 := HCV.out u3 (Q2.out.keep hb)
        clear hb
        go_wp2_with fail
        refine (HNB.out _).mono ?_
        rintro e w1 ⟨rfl, rfl⟩
        clear hcv3
        go_wp2_with fail
        exact ⟨rfl, by rw [EW.out]; rfl, B3.out⟩
theorem go_asked : goFn Tryd.prog 51 = true := by kernel_rfl
end Go.Proofs.YtbojigimldfghaaDoor
