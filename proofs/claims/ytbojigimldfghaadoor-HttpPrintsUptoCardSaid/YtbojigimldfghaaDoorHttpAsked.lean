/- Contract of http.need: what does not hold is panicked with. And what was HttpNeed, HttpPath. -/
import Derived.Test.YtbojigimldfghaaDoorStrFacts
import Derived.WalkLawsBesides
import Derived.Test.YtbojigimldfghaaDoorHttpLines
import Derived.Test.YtbojigimldfghaaDoorHeadToken
namespace Go.Proofs.YtbojigimldfghaaDoor
open Go.ChangeShapes Go.WideShapes Go.ChangeAt Go.RowKit
set_option linter.unusedVariables false
set_option linter.unusedSimpArgs false

/-- what a request that is none panics with -/
def wrongV (n : Nat) : Value := .iface 85 (.agg #[.int .u16 (n : Int)])
def wrongE (n : Nat) : PanicEntry := { v := wrongV n, recovered := false }
theorem need_ok (n : Int) (w : World) : Calls Tryd.prog 50 #[.bool true, .int .u16 n] w fun e w' => e = .returned (.tuple #[]) ∧ w = w' := by
  go_enter Tryd.func50, Tryd.ntmps50
  go_wp2
  first | go_end0 | go_ret
  exact ⟨rfl, rfl⟩
theorem need_bad (n : Nat) (w : World) : Calls Tryd.prog 50 #[.bool false, .int .u16 (n : Int)] w fun e w' => e = .panicked [wrongE n] ∧ w = w' := by
  go_enter Tryd.func50, Tryd.ntmps50
  go_wp2
  exact ⟨rfl, rfl, rfl⟩
/-- both ways at once: the walk parts where need is called -/
theorem need_any (b : Bool) (n : Nat) (w : World) : Calls Tryd.prog 50 #[.bool b, .int .u16 (n : Int)] w fun e w' => w = w' ∧ (b = true ∧ e = .returned (.tuple #[]) ∨ b = false ∧ e = .panicked [wrongE n]) := by
  cases b
  · refine (need_bad n w).mono ?_
    rintro e w' ⟨rfl, rfl⟩
    exact ⟨rfl, .inr ⟨rfl, rfl⟩⟩
  · refine (need_ok n w).mono ?_
    rintro e w' ⟨rfl, rfl⟩
    exact ⟨rfl, .inl ⟨rfl, rfl⟩⟩
theorem go_need : goFn Tryd.prog 50 = true := by kernel_rfl
end Go.Proofs.YtbojigimldfghaaDoor

/- Contract of http.isPath. -/
namespace Go.Proofs.YtbojigimldfghaaDoor
open Go.ChangeShapes Go.WideShapes Go.ChangeAt Go.RowKit
set_option linter.unusedVariables false
set_option linter.unusedSimpArgs false

/-- how isPath stands: k bytes of the path may be -/
structure IPS (l : List UInt8) (k : Nat) : Prop where
  pos : 1 ≤ k
  le : k ≤ l.length
  head : l.head? = some 47
  all : (l.take k).all inPath = true
theorem IPS.next {l : List UInt8} {k : Nat} (h : IPS l k) (hk : k < l.length) (hc : inPath (l.getD k 0) = true) : IPS l (k + 1) :=
  ⟨by omega, hk, h.head, all_step inPath l k (k + 1) (by omega) hk h.all fun j hj h1 h2 => by
    obtain rfl : j = k := by omega
    have e : l.getD j 0 = l[j] := by simp [List.getD, hk]
    rwa [e] at hc⟩
theorem IPS.yes {l : List UInt8} {k : Nat} (h : IPS l k) (hk : l.length ≤ k) : pathL l = true := by
  have h1 := h.all
  rw [List.take_of_length_le hk] at h1
  simp [pathL, h.head, h1]
theorem path_no {l : List UInt8} {k : Nat} (hk : k < l.length) (hc : inPath (l.getD k 0) = false) : pathL l = false := by
  have e : l.getD k 0 = l[k] := by simp [List.getD, hk]
  rw [e] at hc
  simp [pathL, all_not inPath l k hk hc]
theorem path_head {l : List UInt8} (h : l.getD 0 0 ≠ 47) : pathL l = false := by
  have : ¬ l.head? = some 47 := by
    cases l with
    | nil => simp
    | cons a r => simpa [List.getD] using h
  simp [pathL, this]
theorem path_first {l : List UInt8} (h : l.getD 0 0 = 47) : IPS l 1 := by
  cases l with
  | nil => simp [List.getD] at h
  | cons a r =>
    simp [List.getD] at h
    subst h
    exact ⟨by omega, by simp, rfl, by simp; decide⟩
theorem inPath_is (c : UInt8) : inPath c = (decide (33 ≤ c.toNat) && decide (c.toNat ≤ 126)) := rfl
set_option maxRecDepth 8000 in
set_option maxHeartbeats 4000000 in
theorem isPath_any (l : List UInt8) (w : World) (hl : l.length ≤ 100000) :
    Calls Tryd.prog 64 #[.string (strOf l)] w fun e w' => e = .returned (.bool (pathL l)) ∧ Below w.heap.size w w' := by
  obtain ⟨d, u, hcv, hq, hb⟩ := conv_str w l (by omega)
  obtain ⟨W, hW⟩ : ∃ W, u.alloc (.cells #[.slice (some ⟨w.heap.size, 0, none⟩) l.length d, .int .i64 0] 71) = W := ⟨_, rfl⟩
  have hbW : Below u.heap.size u W := by rw [← hW]; exact below_new u _
  have D0 : Hid (RdB u.heap.size (some ⟨w.heap.size, 0, none⟩) l.length d 0 W) := hideIt (by rw [← hW]; exact RdB.new u _ _ _)
  have Q0 := hideIt (hq.keep hbW)
  have B0 := hideIt (below_then hb hbW)
  have HG : Hid (w.heap.size ≤ u.heap.size) := hideIt hb.size
  have HAP : Hid (Apart (some ⟨w.heap.size, 0, none⟩) l u.heap.size) := hideIt (hq.apart (Nat.le_refl _))
  have HW := hideIt hW
  have HL := hideIt hl
  obtain ⟨RR, hRR⟩ : ∃ R, pathL l = R := ⟨_, rfl⟩
  have HR := hideIt hRR
  rw [hRR]
  clear hbW hq hb hW hRR
  generalize hgg : u.heap.size = g at *
  have HGG := hideIt hgg
  clear hgg
  go_enter Tryd.func64, Tryd.ntmps64
  go_wp2_with fail
  rw [HW.out, HGG.out]
  refine (hnext_all g (some ⟨w.heap.size, 0, none⟩) l l.length d 0 W D0.out Q0.out rfl (Nat.zero_le _) (by have := HL.out; omega)).mono ?_
  rintro e u1 ⟨rfl, hr, hg⟩
  have B1 := hideIt (below_grown B0.out hg HG.out)
  have Q1 := hideIt (Q0.out.grown hg HAP.out)
  have R1 := hideIt hr
  clear hr hg hcv
  by_cases h47 : l.getD 0 0 = 47
  · have S1 := hideIt (path_first h47)
    have hq1 : (((l.getD 0 0).toNat : Int) != 47) = false := by rw [h47]; rfl
    have hl1 := S1.out.le
    rw [show min (0 + 1) l.length = 1 by omega] at R1
    clear h47
    generalize ((l.getD 0 0).toNat : Int) = x0 at *
    generalize decide (0 < l.length) = b0 at *
    go_wp2_with fail
    refine (hnext_all g (some ⟨w.heap.size, 0, none⟩) l l.length d 1 u1 R1.out Q1.out rfl hl1 (by have := HL.out; omega)).mono ?_
    rintro e u2 ⟨rfl, hr, hg⟩
    have B2 := hideIt (below_grown B1.out hg HG.out)
    have Q2 := hideIt (Q1.out.grown hg HAP.out)
    have R2 := hideIt hr
    clear hr hg R1 Q1 B1
    go_wp2_with fail
    go_loopw [6, 7] (fun cv mv wr => ∃ k : Nat, IPS l k ∧ cv = .int .u8 ((l.getD k 0).toNat : Int) ∧ mv = .bool (decide (k < l.length)) ∧ RdB g (some ⟨w.heap.size, 0, none⟩) l.length d (min (k + 1) l.length) wr ∧ PieceOk wr ⟨some ⟨w.heap.size, 0, none⟩, d, l⟩ ∧ Below w.heap.size w wr) (fun cv mv wr => 2 * (l.length - rdPosB wr g) + boolNB mv)
    case atStart => exact ⟨1, S1.out, rfl, rfl, R2.out, Q2.out, B2.out⟩
    case round =>
      obtain ⟨k, hs, rfl, rfl, hr, hq, hb⟩ := hrel
      have HS := hideIt hs
      have HRD := hideIt hr
      have HQ := hideIt hq
      have HB := hideIt hb
      have hkl := hs.le
      clear hs hr hq hb R2 Q2 B2 S1
      by_cases hk : k < l.length
      · rw [decide_eq_true hk]
        rw [show min (k + 1) l.length = k + 1 by omega] at HRD
        have P0 := hideIt HRD.out.pos
        have hx := (l.getD k 0).toNat_lt
        by_cases hin : inPath (l.getD k 0) = true
        · have S2 := hideIt (HS.out.next hk hin)
          rw [inPath_is, Bool.and_eq_true, decide_eq_true_eq, decide_eq_true_eq] at hin
          have g1 : ¬ ((l.getD k 0).toNat : Int) < 33 := by omega
          have g2 : ¬ (126 : Int) < ((l.getD k 0).toNat : Int) := by omega
          clear hin hx
          generalize ((l.getD k 0).toNat : Int) = x at *
          go_wp2_with fail
          refine (hnext_all g (some ⟨w.heap.size, 0, none⟩) l l.length d (k + 1) wr HRD.out HQ.out rfl hk (by have := HL.out; omega)).mono ?_
          rintro e w8 ⟨rfl, hr, hg⟩
          have B8 := hideIt (below_grown HB.out hg HG.out)
          have Q8 := hideIt (HQ.out.grown hg HAP.out)
          have R8 := hideIt hr
          have P8 := hideIt hr.pos
          have M8 : Hid (2 * (l.length - min (k + 1 + 1) l.length) + boolNB (.bool (decide (k + 1 < l.length))) < 2 * (l.length - (k + 1)) + boolNB (.bool true)) := hideIt (by
            by_cases h : k + 1 < l.length
            · rw [decide_eq_true h]; simp only [boolNB]; omega
            · rw [decide_eq_false h]; simp only [boolNB]; omega)
          clear hr hg
          generalize hx9 : ((l.getD (k + 1) 0).toNat : Int) = x9 at *
          generalize hb9 : decide (k + 1 < l.length) = b9 at *
          have HX9 := hideIt hx9
          have HB9 := hideIt hb9
          clear hx9 hb9
          go_wp2_with fail
          go_roundw
          case rel => exact ⟨k + 1, S2.out, by rw [HX9.out], by rw [HB9.out], R8.out, Q8.out, B8.out⟩
          case measure => rw [P8.out, P0.out]; exact M8.out
        · have E := hideIt (path_no hk (by simpa using hin))
          have hor : ((l.getD k 0).toNat : Int) < 33 ∨ ¬ ((l.getD k 0).toNat : Int) < 33 ∧ (126 : Int) < ((l.getD k 0).toNat : Int) := by
            rw [inPath_is, Bool.and_eq_true, decide_eq_true_eq, decide_eq_true_eq] at hin
            omega
          clear hin hx
          generalize ((l.getD k 0).toNat : Int) = x at *
          rcases hor with g1 | ⟨g1, g2⟩
          all_goals
            go_wp2_with fail
            go_ret
            exact ⟨by rw [← HR.out, E.out]; rfl, HB.out⟩
      · rw [decide_eq_false hk]
        have E := hideIt (HS.out.yes (by omega))
        generalize ((l.getD k 0).toNat : Int) = x at *
        go_wp2_with fail
        go_ret
        exact ⟨by rw [← HR.out, E.out]; rfl, HB.out⟩
  · have E := hideIt (path_head h47)
    have hq1 : (((l.getD 0 0).toNat : Int) != 47) = true := by rw [bne_iff_ne]; exact fun h => h47 (UInt8.toNat_inj.1 (by show _ = 47; omega))
    clear h47
    generalize ((l.getD 0 0).toNat : Int) = x0 at *
    generalize decide (0 < l.length) = b0 at *
    go_wp2_with fail
    go_ret
    exact ⟨by rw [← HR.out, E.out]; rfl, B1.out⟩
theorem go_isPath : goFn Tryd.prog 64 = true := by kernel_rfl

end Go.Proofs.YtbojigimldfghaaDoor

/- Contract of http.asked. -/
namespace Go.Proofs.YtbojigimldfghaaDoor
open Go.ChangeShapes Go.WideShapes Go.ChangeAt Go.RowKit
set_option linter.unusedVariables false
set_option linter.unusedSimpArgs false

/-! ### asked -/
def verT : ByteArray := ⟨#[72, 84, 84, 80, 47, 49, 46, 49]⟩
theorem firstL_len (l : List UInt8) : (firstL l).1.1.length ≤ 2000 ∧ (firstL l).1.2.length ≤ 2000 := by
  by_cases h : (firstL l).2 = 0
  · have := firstL_ok h; omega
  · have e : (firstL l).1 = PairZ := by
      unfold firstL at h ⊢
      by_cases h0 : 2000 < l.length
      · rw [if_pos h0]
      · rw [if_neg h0] at h ⊢
        cases hw : wordsL l with
        | none => rfl
        | some z =>
          rw [hw] at h
          cases hz : firstOk z
          · simp [hz]
          · simp [hz] at h
    rw [e]; simp [PairZ]
/-- what a function of requests answers: v, or it panics with an error -/
def endE (n : Nat) (v : Value) : Ending := if n = 0 then .returned v else .panicked [wrongE n]
set_option maxRecDepth 8000 in
set_option maxHeartbeats 4000000 in
theorem asked_any (l : List UInt8) (w : World) (hl : l.length ≤ 100000) (hm : MaxOk w) :
    Calls Tryd.prog 51 #[.string (strOf l)] w fun e w' => e = endE (firstL l).2 (.tuple #[.string (strOf (firstL l).1.1), .string (strOf (firstL l).1.2)]) ∧ Below w.heap.size w w' := by
  have hsz := strOf_size l
  obtain ⟨RR, hRR⟩ : ∃ R, firstL l = R := ⟨_, rfl⟩
  have HR := hideIt hRR
  rw [hRR]
  clear hRR
  by_cases hlong : 2000 < l.length
  · have E : Hid (RR = (PairZ, 3)) := hideIt (by rw [← HR.out, firstL, if_pos hlong])
    have h1 : ¬ (l.length : Int) ≤ 2000 := by omega
    have HN := hideIt (fun w => need_bad 3 w)
    clear hlong hm
    go_enter Tryd.func51, Tryd.ntmps51
    go_wp2_with fail
    refine (HN.out _).mono ?_
    rintro e w1 ⟨rfl, rfl⟩
    go_wp2_with fail
    exact ⟨rfl, by rw [E.out]; rfl, Below.refl _ _⟩
  have h1 : (l.length : Int) ≤ 2000 := by omega
  obtain ⟨d, u, hcv, hq, hb⟩ := conv_str w l (by omega)
  obtain ⟨W, hW⟩ : ∃ W, u.alloc (.cells #[.slice (some ⟨w.heap.size, 0, none⟩) l.length d, .int .i64 0] 71) = W := ⟨_, rfl⟩
  have hbW : Below u.heap.size u W := by rw [← hW]; exact below_new u _
  have D0 : Hid (RdB u.heap.size (some ⟨w.heap.size, 0, none⟩) l.length d 0 W) := hideIt (by rw [← hW]; exact RdB.new u _ _ _)
  have Q0 := hideIt (hq.keep hbW)
  have B0 := hideIt (below_then hb hbW)
  have HG : Hid (w.heap.size ≤ u.heap.size) := hideIt hb.size
  have HAP : Hid (Apart (some ⟨w.heap.size, 0, none⟩) l u.heap.size) := hideIt (hq.apart (Nat.le_refl _))
  have HW := hideIt hW
  have HM := hideIt hm
  have HNG : Hid (u.heap.size ≠ 0) := hideIt (by have := hm.lt; have := hb.size; omega)
  have HN3 := hideIt (fun w => need_ok 3 w)
  have HL : Hid (l.length ≤ 2000) := hideIt (by omega)
  clear hbW hq hb hW hm
  generalize hgg : u.heap.size = g at *
  have HGG := hideIt hgg
  clear hgg
  cases hc : cutS [32] l with
  | none =>
    have E : Hid (RR = (PairZ, 11)) := hideIt (by rw [← HR.out, firstL, if_neg hlong, wordsL, hc])
    have HU : Hid (∀ wr, RdB g (some ⟨w.heap.size, 0, none⟩) l.length d 0 wr → PieceOk wr ⟨some ⟨w.heap.size, 0, none⟩, d, l⟩ → MaxOk wr → Calls Tryd.prog 40 #[.pointer (some ⟨g, 0, none⟩), .string ⟨#[32]⟩] wr fun e w' => e = .returned (.tuple #[.string ⟨#[]⟩, .bool false]) ∧ Below wr.heap.size wr w') :=
      hideIt fun wr hr hp hm => until_none g _ l l.length d 0 [32] wr hr hp rfl (Nat.zero_le _) (by have := HL.out; omega) (by simp) (by simp) hm (by rw [List.drop_zero]; exact hc)
    have HNB := hideIt (fun w => need_bad 11 w)
    clear hc hlong
    go_enter Tryd.func51, Tryd.ntmps51
    go_wp2_with fail
    refine (HN3.out _).mono ?_
    rintro e w1 ⟨rfl, rfl⟩
    go_wp2_with fail
    rw [HW.out, HGG.out]
    refine (HU.out W D0.out Q0.out (HM.out.keep B0.out)).mono ?_
    rintro e u1 ⟨rfl, hb⟩
    have B1 := hideIt (below_then B0.out hb)
    have D1 := hideIt (D0.out.keep hb)
    have Q1 := hideIt (Q0.out.keep hb)
    clear hb
    go_wp2_with fail
    refine (HU.out u1 D1.out Q1.out (HM.out.keep B1.out)).mono ?_
    rintro e u2 ⟨rfl, hb⟩
    have B2 := hideIt (below_then B1.out hb)
    clear hb
    go_wp2_with fail
    refine (HNB.out _).mono ?_
    rintro e w1 ⟨rfl, rfl⟩
    go_wp2_with fail
    exact ⟨rfl, by rw [E.out]; rfl, B2.out⟩
  | some z =>
    obtain ⟨m, r⟩ := z
    have hcl := cut_len hc
    have hct := (cut_take hc).2
    simp only [List.length_cons, List.length_nil] at hcl hct
    have HU1 : Hid (Calls Tryd.prog 40 #[.pointer (some ⟨g, 0, none⟩), .string ⟨#[32]⟩] W fun e w' => e = .returned (.tuple #[.string (strOf m), .bool true]) ∧ RdB g (some ⟨w.heap.size, 0, none⟩) l.length d (0 + m.length + 1) w' ∧ W.grownBy w' (some g)) :=
      hideIt (until_some g _ l l.length d 0 [32] m r W D0.out Q0.out rfl (Nat.zero_le _) (by have := HL.out; omega) (by simp) (by simp) (HM.out.keep B0.out) HAP.out (by rw [List.drop_zero]; exact hc))
    have hdr : l.drop (0 + m.length + 1) = r := by rw [← hct]; congr 1; omega
    cases hc2 : cutS [32] r with
    | none =>
      have E : Hid (RR = (PairZ, 11)) := hideIt (by rw [← HR.out, firstL, if_neg hlong, wordsL, hc]; simp [hc2])
      have HU : Hid (∀ wr, RdB g (some ⟨w.heap.size, 0, none⟩) l.length d (0 + m.length + 1) wr → PieceOk wr ⟨some ⟨w.heap.size, 0, none⟩, d, l⟩ → MaxOk wr → Calls Tryd.prog 40 #[.pointer (some ⟨g, 0, none⟩), .string ⟨#[32]⟩] wr fun e w' => e = .returned (.tuple #[.string ⟨#[]⟩, .bool false]) ∧ Below wr.heap.size wr w') :=
        hideIt fun wr hr hp hm => until_none g _ l l.length d _ [32] wr hr hp rfl (by omega) (by have := HL.out; omega) (by simp) (by simp) hm (by rw [hdr]; exact hc2)
      have HNB := hideIt (fun w => need_bad 11 w)
      clear hc hc2 hlong hcl hct hdr
      generalize 0 + m.length + 1 = k1 at *
      go_enter Tryd.func51, Tryd.ntmps51
      go_wp2_with fail
      refine (HN3.out _).mono ?_
      rintro e w1 ⟨rfl, rfl⟩
      go_wp2_with fail
      rw [HW.out, HGG.out]
      refine HU1.out.mono ?_
      rintro e u1 ⟨rfl, hr, hg⟩
      have B1 := hideIt (below_grown B0.out hg HG.out)
      have Q1 := hideIt (Q0.out.grown hg HAP.out)
      have M1 := hideIt ((HM.out.keep B0.out).grown hg HNG.out)
      have D1 := hideIt hr
      clear hr hg
      go_wp2_with fail
      refine (HU.out u1 D1.out Q1.out M1.out).mono ?_
      rintro e u2 ⟨rfl, hb⟩
      have B2 := hideIt (below_then B1.out hb)
      clear hb
      go_wp2_with fail
      refine (HNB.out _).mono ?_
      rintro e w1 ⟨rfl, rfl⟩
      go_wp2_with fail
      exact ⟨rfl, by rw [E.out]; rfl, B2.out⟩
    | some z2 =>
      obtain ⟨p, v⟩ := z2
      have hcl2 := cut_len hc2
      have hct2 := (cut_take hc2).2
      simp only [List.length_cons, List.length_nil] at hcl2 hct2
      have HU2 : Hid (∀ wr, RdB g (some ⟨w.heap.size, 0, none⟩) l.length d (0 + m.length + 1) wr → PieceOk wr ⟨some ⟨w.heap.size, 0, none⟩, d, l⟩ → MaxOk wr → Calls Tryd.prog 40 #[.pointer (some ⟨g, 0, none⟩), .string ⟨#[32]⟩] wr fun e w' => e = .returned (.tuple #[.string (strOf p), .bool true]) ∧ RdB g (some ⟨w.heap.size, 0, none⟩) l.length d (0 + m.length + 1 + p.length + 1) w' ∧ wr.grownBy w' (some g)) :=
        hideIt fun wr hr hp hm => until_some g _ l l.length d _ [32] p v wr hr hp rfl (by omega) (by have := HL.out; omega) (by simp) (by simp) hm HAP.out (by rw [hdr]; exact hc2)
      have hdr2 : l.drop (0 + m.length + 1 + p.length + 1) = v := by rw [← hct2, ← hdr, List.drop_drop]; congr 1
      obtain ⟨A1, s1, s2, s3, s4⟩ := slice_lo (some ⟨w.heap.size, 0, none⟩) l.length d (0 + m.length + 1 + p.length + 1) (by omega) (by have := Q0.out.fits; simpa using this) (fun h => by cases h)
      have HREST : Hid (∀ wr, RdB g (some ⟨w.heap.size, 0, none⟩) l.length d (0 + m.length + 1 + p.length + 1) wr → Calls Tryd.prog 57 #[.pointer (some ⟨g, 0, none⟩)] wr fun e w' => e = .returned (.slice A1 (l.length - (0 + m.length + 1 + p.length + 1)) (d - (0 + m.length + 1 + p.length + 1))) ∧ Below wr.heap.size wr w') :=
        hideIt fun wr hr => rest_any g _ A1 _ _ _ _ _ wr hr s1
      have HCV : Hid (∀ wr, PieceOk wr ⟨some ⟨w.heap.size, 0, none⟩, d, l⟩ → (convert 22 9 (.slice A1 (l.length - (0 + m.length + 1 + p.length + 1)) (d - (0 + m.length + 1 + p.length + 1)))).run Tryd.prog wr = .ok (.string (strOf v)) wr) :=
        hideIt fun wr hp => conv_bytes A1 v _ _ _ wr (by have := s2 wr _ l rfl hp.bytes; rwa [hdr2] at this) (by rw [← hdr2, List.length_drop])
      have EW : Hid (RR = if firstOk (m, p, v) then ((m, p), 0) else (PairZ, 11)) := hideIt (by rw [← HR.out, firstL, if_neg hlong, wordsL, hc]; simp [hc2])
      have HNB := hideIt (fun w => need_bad 11 w)
      have HNO := hideIt (fun w => need_ok 11 w)
      have HT := hideIt (fun w => token_any m w (by have := HL.out; omega))
      have HPA := hideIt (fun w => isPath_any p w (by have := HL.out; omega))
      clear hc hc2 hlong hcl hct hdr hcl2 hct2 hdr2 s1 s2 s3 s4
      generalize 0 + m.length + 1 + p.length + 1 = k2 at *
      generalize 0 + m.length + 1 = k1 at *
      generalize l.length - k2 = m2 at *
      generalize d - k2 = c2 at *
      have PRE : ∀ (K : World → Prop), (∀ u4, Below w.heap.size w u4 → (convert 22 9 (.slice A1 m2 c2)).run Tryd.prog u4 = .ok (.string (strOf v)) u4 → K u4) → True := fun _ _ => trivial
      clear PRE
      by_cases hv : v = verL
      · subst hv
        have hqv : ((strOf verL).toList == [72, 84, 84, 80, 47, 49, 46, 49]) = true := by rw [strOf_toList]; rfl
        unfold firstOk at EW
        simp only [decide_true, Bool.true_and] at EW
        have hver : strOf verL = ⟨#[72, 84, 84, 80, 47, 49, 46, 49]⟩ := rfl
        rw [hver] at HCV
        clear hver hqv
        cases ht : tokenL m
        · rw [ht] at EW HT
          simp only [Bool.false_and] at EW
          clear ht HPA
          go_enter Tryd.func51, Tryd.ntmps51
          go_wp2_with fail
          refine (HN3.out _).mono ?_
          rintro e w1 ⟨rfl, rfl⟩
          go_wp2_with fail
          rw [HW.out, HGG.out]
          refine HU1.out.mono ?_
          rintro e u1 ⟨rfl, hr, hg⟩
          have B1 := hideIt (below_grown B0.out hg HG.out)
          have Q1 := hideIt (Q0.out.grown hg HAP.out)
          have M1 := hideIt ((HM.out.keep B0.out).grown hg HNG.out)
          have D1 := hideIt hr
          clear hr hg
          go_wp2_with fail
          refine (HU2.out u1 D1.out Q1.out M1.out).mono ?_
          rintro e u2 ⟨rfl, hr, hg⟩
          have B2 := hideIt (below_grown B1.out hg HG.out)
          have Q2 := hideIt (Q1.out.grown hg HAP.out)
          have D2 := hideIt hr
          clear hr hg
          go_wp2_with fail
          refine (HREST.out u2 D2.out).mono ?_
          rintro e u3 ⟨rfl, hb⟩
          have B3 := hideIt (below_then B2.out hb)
          have hcv3 := HCV.out u3 (Q2.out.keep hb)
          clear hb
          go_wp2_with fail
          refine (HNO.out _).mono ?_
          rintro e w1 ⟨rfl, rfl⟩
          clear hcv3
          go_wp2_with fail
          refine (HT.out _).mono ?_
          rintro e u4 ⟨rfl, hb⟩
          have B4 := hideIt (below_then B3.out hb)
          clear hb
          go_wp2_with fail
          refine (HNB.out _).mono ?_
          rintro e w1 ⟨rfl, rfl⟩
          go_wp2_with fail
          exact ⟨rfl, by rw [EW.out]; rfl, B4.out⟩
        · rw [ht] at EW HT
          simp only [Bool.true_and] at EW
          clear ht
          cases hpa : pathL p
          · rw [hpa] at EW HPA
            clear hpa
            go_enter Tryd.func51, Tryd.ntmps51
            go_wp2_with fail
            refine (HN3.out _).mono ?_
            rintro e w1 ⟨rfl, rfl⟩
            go_wp2_with fail
            rw [HW.out, HGG.out]
            refine HU1.out.mono ?_
            rintro e u1 ⟨rfl, hr, hg⟩
            have B1 := hideIt (below_grown B0.out hg HG.out)
            have Q1 := hideIt (Q0.out.grown hg HAP.out)
            have M1 := hideIt ((HM.out.keep B0.out).grown hg HNG.out)
            have D1 := hideIt hr
            clear hr hg
            go_wp2_with fail
            refine (HU2.out u1 D1.out Q1.out M1.out).mono ?_
            rintro e u2 ⟨rfl, hr, hg⟩
            have B2 := hideIt (below_grown B1.out hg HG.out)
            have Q2 := hideIt (Q1.out.grown hg HAP.out)
            have D2 := hideIt hr
            clear hr hg
            go_wp2_with fail
            refine (HREST.out u2 D2.out).mono ?_
            rintro e u3 ⟨rfl, hb⟩
            have B3 := hideIt (below_then B2.out hb)
            have hcv3 := HCV.out u3 (Q2.out.keep hb)
            clear hb
            go_wp2_with fail
            refine (HNO.out _).mono ?_
            rintro e w1 ⟨rfl, rfl⟩
            clear hcv3
            go_wp2_with fail
            refine (HT.out _).mono ?_
            rintro e u4 ⟨rfl, hb⟩
            have B4 := hideIt (below_then B3.out hb)
            clear hb
            go_wp2_with fail
            refine (HPA.out _).mono ?_
            rintro e u5 ⟨rfl, hb⟩
            have B5 := hideIt (below_then B4.out hb)
            clear hb
            go_wp2_with fail
            refine (HNB.out _).mono ?_
            rintro e w1 ⟨rfl, rfl⟩
            go_wp2_with fail
            exact ⟨rfl, by rw [EW.out]; rfl, B5.out⟩
          · rw [hpa] at EW HPA
            clear hpa
            go_enter Tryd.func51, Tryd.ntmps51
            go_wp2_with fail
            refine (HN3.out _).mono ?_
            rintro e w1 ⟨rfl, rfl⟩
            go_wp2_with fail
            rw [HW.out, HGG.out]
            refine HU1.out.mono ?_
            rintro e u1 ⟨rfl, hr, hg⟩
            have B1 := hideIt (below_grown B0.out hg HG.out)
            have Q1 := hideIt (Q0.out.grown hg HAP.out)
            have M1 := hideIt ((HM.out.keep B0.out).grown hg HNG.out)
            have D1 := hideIt hr
            clear hr hg
            go_wp2_with fail
            refine (HU2.out u1 D1.out Q1.out M1.out).mono ?_
            rintro e u2 ⟨rfl, hr, hg⟩
            have B2 := hideIt (below_grown B1.out hg HG.out)
            have Q2 := hideIt (Q1.out.grown hg HAP.out)
            have D2 := hideIt hr
            clear hr hg
            go_wp2_with fail
            refine (HREST.out u2 D2.out).mono ?_
            rintro e u3 ⟨rfl, hb⟩
            have B3 := hideIt (below_then B2.out hb)
            have hcv3 := HCV.out u3 (Q2.out.keep hb)
            clear hb
            go_wp2_with fail
            refine (HNO.out _).mono ?_
            rintro e w1 ⟨rfl, rfl⟩
            clear hcv3
            go_wp2_with fail
            refine (HT.out _).mono ?_
            rintro e u4 ⟨rfl, hb⟩
            have B4 := hideIt (below_then B3.out hb)
            clear hb
            go_wp2_with fail
            refine (HPA.out _).mono ?_
            rintro e u5 ⟨rfl, hb⟩
            have B5 := hideIt (below_then B4.out hb)
            clear hb
            go_wp2_with fail
            refine (HNO.out _).mono ?_
            rintro e w1 ⟨rfl, rfl⟩
            go_wp2_with fail
            go_ret2
            exact ⟨by rw [EW.out]; rfl, B5.out⟩
      · have hqv : ((strOf v).toList == [72, 84, 84, 80, 47, 49, 46, 49]) = false := by rw [strOf_toList, beq_eq_false_iff_ne]; exact hv
        unfold firstOk at EW
        simp only [decide_eq_false hv, Bool.false_and] at EW
        clear hv HT HPA
        go_enter Tryd.func51, Tryd.ntmps51
        go_wp2_with fail
        refine (HN3.out _).mono ?_
        rintro e w1 ⟨rfl, rfl⟩
        go_wp2_with fail
        rw [HW.out, HGG.out]
        refine HU1.out.mono ?_
        rintro e u1 ⟨rfl, hr, hg⟩
        have B1 := hideIt (below_grown B0.out hg HG.out)
        have Q1 := hideIt (Q0.out.grown hg HAP.out)
        have M1 := hideIt ((HM.out.keep B0.out).grown hg HNG.out)
        have D1 := hideIt hr
        clear hr hg
        go_wp2_with fail
        refine (HU2.out u1 D1.out Q1.out M1.out).mono ?_
        rintro e u2 ⟨rfl, hr, hg⟩
        have B2 := hideIt (below_grown B1.out hg HG.out)
        have Q2 := hideIt (Q1.out.grown hg HAP.out)
        have D2 := hideIt hr
        clear hr hg
        go_wp2_with fail
        refine (HREST.out u2 D2.out).mono ?_
        rintro e u3 ⟨rfl, hb⟩
        have B3 := hideIt (below_then B2.out hb)
        have hcv3 := HCV.out u3 (Q2.out.keep hb)
        clear hb
        go_wp2_with fail
        refine (HNB.out _).mono ?_
        rintro e w1 ⟨rfl, rfl⟩
        clear hcv3
        go_wp2_with fail
        exact ⟨rfl, by rw [EW.out]; rfl, B3.out⟩
theorem go_asked : goFn Tryd.prog 51 = true := by kernel_rfl
end Go.Proofs.YtbojigimldfghaaDoor
