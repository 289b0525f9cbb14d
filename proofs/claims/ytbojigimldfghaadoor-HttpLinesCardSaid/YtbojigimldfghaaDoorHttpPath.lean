/- Contract of http.isPath. -/
import Derived.Test.YtbojigimldfghaaDoorHttpLines
import Derived.Test.YtbojigimldfghaaDoorHttpNeed
import Derived.Test.YtbojigimldfghaaDoorHeadToken
namespace Go.Proofs.YtbojigimldfghaaDoor
open Go.ChangeShapes Go.WideShapes Go.ChangeAt Go.RowKit
set_option linter.unusedVariables false
set_option linter.unusedSimpArgs false

/-- how isPath stands: k bytes of the path may be -/
structure IPS (l : List UInt8) (k : Nat) : Prop where
  pos : 1 ≤ k
  le : k ≤ l.length
  head : l.head? = some 47
  all : (l.take k).all inPath = true
theorem IPS.next {l : List UInt8} {k : Nat} (h : IPS l k) (hk : k < l.length) (hc : inPath (l.getD k 0) = true) : IPS l (k + 1) :=
  ⟨by omega, hk, h.head, all_step inPath l k (k + 1) (by omega) hk h.all fun j hj h1 h2 => by
    obtain rfl : j = k := by omega
    have e : l.getD j 0 = l[j] := by simp [List.getD, hk]
    rwa [e] at hc⟩
theorem IPS.yes {l : List UInt8} {k : Nat} (h : IPS l k) (hk : l.length ≤ k) : pathL l = true := by
  have h1 := h.all
  rw [List.take_of_length_le hk] at h1
  simp [pathL, h.head, h1]
theorem path_no {l : List UInt8} {k : Nat} (hk : k < l.length) (hc : inPath (l.getD k 0) = false) : pathL l = false := by
  have e : l.getD k 0 = l[k] := by simp [List.getD, hk]
  rw [e] at hc
  simp [pathL, all_not inPath l k hk hc]
theorem path_head {l : List UInt8} (h : l.getD 0 0 ≠ 47) : pathL l = false := by
  have : ¬ l.head? = some 47 := by
    cases l with
    | nil => simp
    | cons a r => simpa [List.getD] using h
  simp [pathL, this]
theorem path_first {l : List UInt8} (h : l.getD 0 0 = 47) : IPS l 1 := by
  cases l with
  | nil => simp [List.getD] at h
  | cons a r =>
    simp [List.getD] at h
    subst h
    exact ⟨by omega, by simp, rfl, by simp; decide⟩
theorem inPath_is (c : UInt8) : inPath c = (decide (33 ≤ c.toNat) && decide (c.toNat ≤ 126)) := rfl
set_option maxRecDepth 8000 in
set_option maxHeartbeats 4000000 in
theorem isPath_any (l : List UInt8) (w : World) (hl : l.length ≤ 100000) :
    Calls Tryd.prog 64 #[.string (strOf l)] w fun e w' => e = .returned (.bool (pathL l)) ∧ Below w.heap.size w w' := by
  obtain ⟨d, u, hcv, hq, hb⟩ := conv_str w l (by omega)
  obtain ⟨W, hW⟩ : ∃ W, u.alloc (.cells #[.slice (some ⟨w.heap.size, 0, none⟩) l.length d, .int .i64 0] 71) = W := ⟨_, rfl⟩
  have hbW : Below u.heap.size u W := by rw [← hW]; exact below_new u _
  have D0 : Hid (RdB u.heap.size (some ⟨w.heap.size, 0, none⟩) l.length d 0 W) := hideIt (by rw [← hW]; exact RdB.new u _ _ _)
  have Q0 := hideIt (hq.keep hbW)
  have B0 := hideIt (below_then hb hbW)
  have HG : Hid (w.heap.size ≤ u.heap.size) := hideIt hb.size
  have HAP : Hid (Apart (some ⟨w.heap.size, 0, none⟩) l u.heap.size) := hideIt (hq.apart (Nat.le_refl _))
  have HW := hideIt hW
  have HL := hideIt hl
  obtain ⟨RR, hRR⟩ : ∃ R, pathL l = R := ⟨_, rfl⟩
  have HR := hideIt hRR
  rw [hRR]
  clear hbW hq hb hW hRR
  generalize hgg : u.heap.size = g at *
  have HGG := hideIt hgg
  clear hgg
  go_enter Tryd.func64, Tryd.ntmps64
  go_wp2_with fail
  rw [HW.out, HGG.out]
  refine (hnext_all g (some ⟨w.heap.size, 0, none⟩) l l.length d 0 W D0.out Q0.out rfl (Nat.zero_le _) (by have := HL.out; omega)).mono ?_
  rintro e u1 ⟨rfl, hr, hg⟩
  have B1 := hideIt (below_grown B0.out hg HG.out)
  have Q1 := hideIt (Q0.out.grown hg HAP.out)
  have R1 := hideIt hr
  clear hr hg hcv
  by_cases h47 : l.getD 0 0 = 47
  · have S1 := hideIt (path_first h47)
    have hq1 : (((l.getD 0 0).toNat : Int) != 47) = false := by rw [h47]; rfl
    have hl1 := S1.out.le
    rw [show min (0 + 1) l.length = 1 by omega] at R1
    clear h47
    generalize ((l.getD 0 0).toNat : Int) = x0 at *
    generalize decide (0 < l.length) = b0 at *
    go_wp2_with fail
    refine (hnext_all g (some ⟨w.heap.size, 0, none⟩) l l.length d 1 u1 R1.out Q1.out rfl hl1 (by have := HL.out; omega)).mono ?_
    rintro e u2 ⟨rfl, hr, hg⟩
    have B2 := hideIt (below_grown B1.out hg HG.out)
    have Q2 := hideIt (Q1.out.grown hg HAP.out)
    have R2 := hideIt hr
    clear hr hg R1 Q1 B1
    go_wp2_with fail
    go_loopw [6, 7] (fun cv mv wr => ∃ k : Nat, IPS l k ∧ cv = .int .u8 ((l.getD k 0).toNat : Int) ∧ mv = .bool (decide (k < l.length)) ∧ RdB g (some ⟨w.heap.size, 0, none⟩) l.length d (min (k + 1) l.length) wr ∧ PieceOk wr ⟨some ⟨w.heap.size, 0, none⟩, d, l⟩ ∧ Below w.heap.size w wr) (fun cv mv wr => 2 * (l.length - rdPosB wr g) + boolNB mv)
    case atStart => exact ⟨1, S1.out, rfl, rfl, R2.out, Q2.out, B2.out⟩
    case round =>
      obtain ⟨k, hs, rfl, rfl, hr, hq, hb⟩ := hrel
      have HS := hideIt hs
      have HRD := hideIt hr
      have HQ := hideIt hq
      have HB := hideIt hb
      have hkl := hs.le
      clear hs hr hq hb R2 Q2 B2 S1
      by_cases hk : k < l.length
      · rw [decide_eq_true hk]
        rw [show min (k + 1) l.length = k + 1 by omega] at HRD
        have P0 := hideIt HRD.out.pos
        have hx := (l.getD k 0).toNat_lt
        by_cases hin : inPath (l.getD k 0) = true
        · have S2 := hideIt (HS.out.next hk hin)
          rw [inPath_is, Bool.and_eq_true, decide_eq_true_eq, decide_eq_true_eq] at hin
          have g1 : ¬ ((l.getD k 0).toNat : Int) < 33 := by omega
          have g2 : ¬ (126 : Int) < ((l.getD k 0).toNat : Int) := by omega
          clear hin hx
          generalize ((l.getD k 0).toNat : Int) = x at *
          go_wp2_with fail
          refine (hnext_all g (some ⟨w.heap.size, 0, none⟩) l l.length d (k + 1) wr HRD.out HQ.out rfl hk (by have := HL.out; omega)).mono ?_
          rintro e w8 ⟨rfl, hr, hg⟩
          have B8 := hideIt (below_grown HB.out hg HG.out)
          have Q8 := hideIt (HQ.out.grown hg HAP.out)
          have R8 := hideIt hr
          have P8 := hideIt hr.pos
          have M8 : Hid (2 * (l.length - min (k + 1 + 1) l.length) + boolNB (.bool (decide (k + 1 < l.length))) < 2 * (l.length - (k + 1)) + boolNB (.bool true)) := hideIt (by
            by_cases h : k + 1 < l.length
            · rw [decide_eq_true h]; simp only [boolNB]; omega
            · rw [decide_eq_false h]; simp only [boolNB]; omega)
          clear hr hg
          generalize hx9 : ((l.getD (k + 1) 0).toNat : Int) = x9 at *
          generalize hb9 : decide (k + 1 < l.length) = b9 at *
          have HX9 := hideIt hx9
          have HB9 := hideIt hb9
          clear hx9 hb9
          go_wp2_with fail
          go_roundw
          case rel => exact ⟨k + 1, S2.out, by rw [HX9.out], by rw [HB9.out], R8.out, Q8.out, B8.out⟩
          case measure => rw [P8.out, P0.out]; exact M8.out
        · have E := hideIt (path_no hk (by simpa using hin))
          have hor : ((l.getD k 0).toNat : Int) < 33 ∨ ¬ ((l.getD k 0).toNat : Int) < 33 ∧ (126 : Int) < ((l.getD k 0).toNat : Int) := by
            rw [inPath_is, Bool.and_eq_true, decide_eq_true_eq, decide_eq_true_eq] at hin
            omega
          clear hin hx
          generalize ((l.getD k 0).toNat : Int) = x at *
          rcases hor with g1 | ⟨g1, g2⟩
          all_goals
            go_wp2_with fail
            go_ret
            exact ⟨by rw [← HR.out, E.out]; rfl, HB.out⟩
      · rw [decide_eq_false hk]
        have E := hideIt (HS.out.yes (by omega))
        generalize ((l.getD k 0).toNat : Int) = x at *
        go_wp2_with fail
        go_ret
        exact ⟨by rw [← HR.out, E.out]; rfl, HB.out⟩
  · have E := hideIt (path_head h47)
    have hq1 : (((l.getD 0 0).toNat : Int) != 47) = true := by rw [bne_iff_ne]; exact fun h => h47 (UInt8.toNat_inj.1 (by show _ = 47; omega))
    clear h47
    generalize ((l.getD 0 0).toNat : Int) = x0 at *
    generalize decide (0 < l.length) = b0 at *
    go_wp2_with fail
    go_ret
    exact ⟨by rw [← HR.out, E.out]; rfl, B1.out⟩
theorem go_isPath : goFn Tryd.prog 64 = true := by kernel_rfl

end Go.Proofs.YtbojigimldfghaaDoor
