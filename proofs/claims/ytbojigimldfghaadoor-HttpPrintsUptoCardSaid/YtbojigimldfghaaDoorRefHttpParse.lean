/- Contracts of the reference's path, first, fields and body. And what was RefHttpFirst, RefHttpBody. -/
import Derived.Test.YtbojigimldfghaaDoorHttpFields
import Derived.Test.YtbojigimldfghaaDoorReqMem
import Derived.Test.YtbojigimldfghaaDoorRefHeadTok
import Derived.Test.YtbojigimldfghaaDoorRefHeadField
import Derived.Test.YtbojigimldfghaaDoorRefHeadSame
import Derived.Test.YtbojigimldfghaaDoorRefFillSplit
import Derived.Test.YtbojigimldfghaaDoorRefDec
import Derived.Test.YtbojigimldfghaaDoorHttpParse
import Derived.Test.YtbojigimldfghaaDoorHttpAsked
import Derived.Test.YtbojigimldfghaaDoorRefHttpLines
namespace Go.Proofs.YtbojigimldfghaaDoor
open Go.ChangeShapes Go.WideShapes Go.ChangeAt Go.RowKit
set_option linter.unusedVariables false
set_option linter.unusedSimpArgs false

set_option maxRecDepth 8000 in
set_option maxHeartbeats 2000000 in
theorem refpath_any (l : List UInt8) (w : World) (hl : l.length ≤ 1000000) :
    Calls Tryd.prog 43 #[.string (strOf l)] w fun e w' => e = .returned (.bool (pathL l)) ∧ w = w' := by
  have hsz := strOf_size l
  obtain ⟨RR, hRR⟩ : ∃ R, pathL l = R := ⟨_, rfl⟩
  have HR := hideIt hRR
  rw [hRR]
  clear hRR
  go_enter Tryd.func43, Tryd.ntmps43
  go_wp2_with fail
  go_loopw [3] (fun iv wr => ∃ i : Nat, i ≤ l.length ∧ iv = .int .i64 (i : Int) ∧ (l.take i).all inPath = true ∧ wr = w) (fun iv wr => l.length - (intOf iv).toNat)
  case atStart => exact ⟨0, by omega, rfl, rfl, rfl⟩
  case round =>
    obtain ⟨i, hi, rfl, ha, rfl⟩ := hrel
    have HA := hideIt ha
    clear ha
    have hwi : IntKind.i64.wrap ((i : Int) + 1) = (i : Int) + 1 := IntWalk.i64_in _ (by omega)
    by_cases hlt : i < l.length
    · have hlt' : (i : Int) < (l.length : Int) := by omega
      have hix : ∀ w', (Instr.index 9 (.string (strOf l)) (.int .i64 (i : Int))).run Tryd.prog w' = .ok (.int .u8 ((l[i]).toNat : Int)) w' := fun w' => run_index_str w' l .i64 i hlt
      have hx := (l[i]).toNat_lt
      cases hin : inPath l[i]
      · have E : Hid (pathL l = false) := hideIt (by simp [pathL, all_not inPath l i hlt hin])
        have hor : ((l[i]).toNat : Int) < 33 ∨ ¬ ((l[i]).toNat : Int) < 33 ∧ (126 : Int) < ((l[i]).toNat : Int) := by
          unfold inPath at hin
          rw [Bool.and_eq_false_iff, decide_eq_false_iff_not, decide_eq_false_iff_not] at hin
          omega
        clear hin hx
        generalize ((l[i]).toNat : Int) = x at *
        rcases hor with g1 | ⟨g1, g2⟩
        all_goals
          go_wp2_with fail
          go_ret
          exact ⟨by rw [← HR.out, E.out]; rfl, rfl⟩
      · have N : Hid ((l.take (i + 1)).all inPath = true) := hideIt (all_step inPath l i (i + 1) (by omega) hlt HA.out fun j hj h1 h2 => by
          obtain rfl : j = i := by omega
          exact hin)
        unfold inPath at hin
        rw [Bool.and_eq_true, decide_eq_true_eq, decide_eq_true_eq] at hin
        have g1 : ¬ ((l[i]).toNat : Int) < 33 := by omega
        have g2 : ¬ (126 : Int) < ((l[i]).toNat : Int) := by omega
        clear hin hx
        generalize ((l[i]).toNat : Int) = x at *
        go_wp2_with fail
        go_roundw
        case rel => exact ⟨i + 1, by omega, by go_num, N.out, by first | rfl | trivial⟩
        case measure => simp [intOf]; omega
    · obtain rfl : i = l.length := by omega
      have hlt' : ¬ (l.length : Int) < (l.length : Int) := by omega
      have hall : l.all inPath = true := by have := HA.out; rwa [List.take_length] at this
      cases l with
      | nil =>
        have E : Hid (RR = false) := hideIt (by rw [← HR.out]; rfl)
        go_wp2_with fail
        go_ret
        exact ⟨by rw [E.out]; rfl, rfl⟩
      | cons a r =>
        have hgt : (0 : Int) < ((a :: r).length : Int) := by rw [List.length_cons]; omega
        have hix : ∀ w', (Instr.index 9 (.string (strOf (a :: r))) (.int .i64 0)).run Tryd.prog w' = .ok (.int .u8 (a.toNat : Int)) w' := fun w' => run_index_str w' (a :: r) .i64 0 (by simp)
        have E : Hid (RR = decide (a = 47)) := hideIt (by rw [← HR.out]; simp [pathL, hall])
        have hq : ((a.toNat : Int) == 47) = decide (a = 47) := by
          by_cases h : a = 47
          · subst h; rfl
          · rw [decide_eq_false h, beq_eq_false_iff_ne]; exact fun e => h (UInt8.toNat_inj.1 (by show _ = 47; omega))
        clear hall HA hlt hlt' hi
        generalize decide (a = 47) = bb at *
        generalize (a.toNat : Int) = x at *
        generalize (a :: r).length = n at *
        generalize strOf (a :: r) = s at *
        go_wp2_with fail
        go_ret
        exact ⟨by rw [E.out]; rfl, rfl⟩
theorem go_refpath : goFn Tryd.prog 43 = true := by kernel_rfl

/-! ### first -/
theorem cut_notin : ∀ {l x r : List UInt8}, cutS [32] l = some (x, r) → (32 : UInt8) ∉ x
  | [], x, r, h => by simp [cutS] at h
  | a :: l, x, r, h => by
    unfold cutS at h
    by_cases hp : List.isPrefixOf [32] (a :: l) = true
    · rw [if_pos hp] at h
      cases h
      simp
    · rw [if_neg hp] at h
      have ha : ¬ (32 : UInt8) = a := fun e => hp (by subst e; simp [List.isPrefixOf])
      cases hc : cutS [32] l with
      | none => rw [hc] at h; cases h
      | some z =>
        rw [hc] at h
        cases h
        have := cut_notin (x := z.1) (r := z.2) hc
        simp [ha, this]
theorem cut_nowhere : ∀ {l : List UInt8}, cutS [32] l = none → (32 : UInt8) ∉ l
  | [], h => by simp
  | a :: l, h => by
    unfold cutS at h
    by_cases hp : List.isPrefixOf [32] (a :: l) = true
    · rw [if_pos hp] at h; cases h
    · rw [if_neg hp] at h
      have ha : ¬ (32 : UInt8) = a := fun e => hp (by subst e; simp [List.isPrefixOf])
      cases hc : cutS [32] l with
      | none => have := cut_nowhere hc; simp [ha, this]
      | some z => rw [hc] at h; cases h
theorem split_cut {l x r : List UInt8} (h : cutS [32] l = some (x, r)) : splitL 32 l = x :: splitL 32 r := by
  have e := cut_is h
  have : l = x ++ 32 :: r := by rw [e]; simp
  rw [this, split_append, split_none 32 x (cut_notin h)]
  rfl
theorem split_uncut {l : List UInt8} (h : cutS [32] l = none) : splitL 32 l = [l] := split_none 32 l (cut_nowhere h)
theorem split_each (sep : UInt8) (l : List UInt8) : ∀ x ∈ splitL sep l, x.length ≤ l.length := by
  induction l with
  | nil => simp [splitL]
  | cons a r ih =>
    by_cases h : a = sep
    · subst h
      rw [split_sep]
      intro x hx
      rcases List.mem_cons.1 hx with rfl | hx
      · simp
      · have := ih x hx; simp; omega
    · obtain ⟨p, ps, h1, h2⟩ := split_other sep a r h
      rw [h2]
      rw [h1] at ih
      intro x hx
      rcases List.mem_cons.1 hx with rfl | hx
      · have := ih p (by simp); simp; omega
      · have := ih x (by simp [hx]); simp; omega
/-- what the pieces of a first line make -/
def threeL (ws : List (List UInt8)) : PairL × Nat :=
  match ws with
  | [m, p, v] => if tokenL m && (pathL p && decide (v = verL)) then ((m, p), 0) else (PairZ, 11)
  | _ => (PairZ, 11)
theorem first_three (l : List UInt8) (h : ¬ 2000 < l.length) : firstL l = threeL (splitL 32 l) := by
  unfold firstL
  rw [if_neg h]
  unfold wordsL
  cases hc : cutS [32] l with
  | none => rw [split_uncut hc]; rfl
  | some z =>
    obtain ⟨m, r⟩ := z
    rw [split_cut hc]
    simp only
    cases hc2 : cutS [32] r with
    | none => rw [split_uncut hc2]; rfl
    | some z2 =>
      obtain ⟨p, v⟩ := z2
      rw [split_cut hc2]
      simp only [Option.map_some]
      cases hc3 : cutS [32] v with
      | none =>
        rw [split_uncut hc3]
        unfold firstOk threeL
        simp only
        cases tokenL m <;> cases pathL p <;> by_cases hv : v = verL <;> simp [hv]
      | some z3 =>
        obtain ⟨x3, r3⟩ := z3
        have hne : v ≠ verL := fun e => by
          rw [e] at hc3
          exact absurd (show cutS [32] verL = none from rfl) (by rw [hc3]; simp)
        rw [split_cut hc3]
        have e1 : firstOk (m, p, v) = false := by unfold firstOk; simp [hne]
        rw [e1]
        cases hs : splitL 32 r3 with
        | nil => exact absurd hs (by cases r3 with | nil => simp [splitL] | cons a t => intro h; have := split_count 32 (a :: t); rw [h] at this; simp at this)
        | cons y ys => rfl
set_option maxRecDepth 8000 in
set_option maxHeartbeats 4000000 in
theorem reffirst_any (l : List UInt8) (w : World) (hl : l.length ≤ 100000) :
    Calls Tryd.prog 29 #[.string (strOf l)] w fun e w' => e = .returned (.tuple #[.agg #[.string (strOf (firstL l).1.1), .string (strOf (firstL l).1.2), .slice none 0 0, .slice none 0 0], .int .i64 ((firstL l).2 : Int)]) ∧ Below w.heap.size w w' := by
  have hsz := strOf_size l
  have Z0 := hideIt (QCell.zero w)
  have B0 := hideIt (below_new w zeroQ)
  have HZ : zeroQ = .cells #[.string ⟨#[]⟩, .string ⟨#[]⟩, .slice none 0 0, .slice none 0 0] 33 := rfl
  rw [HZ] at Z0 B0
  clear HZ
  by_cases hlong : 2000 < l.length
  · have E : Hid (firstL l = (PairZ, 3)) := hideIt (by unfold firstL; rw [if_pos hlong])
    obtain ⟨R, hR⟩ : ∃ R, firstL l = R := ⟨_, rfl⟩
    rw [hR] at E ⊢
    have h1 : (2000 : Int) < (l.length : Int) := by omega
    have ZS := hideIt (Z0.out.set (.string ⟨#[]⟩) (.string ⟨#[]⟩) (.slice none 0 0) (.slice none 0 0))
    have q0 := Z0.out.fz 0
    have q1 := Z0.out.fz 1
    have q2 := Z0.out.fz 2
    have q3 := Z0.out.fz 3
    have k0 := Z0.out.c0
    have k1 := Z0.out.c1
    have k2 := Z0.out.c2
    have k3 := Z0.out.c3
    clear hlong hR
    go_enter Tryd.func29, Tryd.ntmps29
    go_wp2_with fail
    (try simp only [Exit.inBlock, Exit.then])
    refine bodyPost_ret (results_Q2 Tryd.results29 _ _ w.heap.size (.string ⟨#[]⟩) (.string ⟨#[]⟩) (.slice none 0 0) (.slice none 0 0) _ rfl rfl (by first | exact Z0.out | exact ZS.out)) rfl ?_
    exact ⟨by rw [E.out]; rfl, by first | exact B0.out | exact below_setQ B0.out (Nat.le_refl _) _ _ _ _⟩
  have h1 : ¬ (2000 : Int) < (l.length : Int) := by omega
  have HSP := hideIt (fun w => refsplit_any l 32 32 rfl w hl)
  have ET := hideIt (first_three l hlong)
  have HWL : Hid (∀ x ∈ splitL 32 l, x.length ≤ 1000000) := hideIt fun x hx => by have := split_each 32 l x hx; omega
  obtain ⟨R, hR⟩ : ∃ R, firstL l = R := ⟨_, rfl⟩
  rw [hR] at ET ⊢
  clear hR hlong hl
  generalize splitL 32 l = ws at *
  by_cases h3 : ws.length = 3
  case neg =>
    have E : Hid (R = (PairZ, 11)) := hideIt (by
      rw [ET.out]
      unfold threeL
      split
      · simp at h3
      · rfl)
    have hne : ((ws.length : Int) != 3) = true := by rw [bne_iff_ne]; omega
    generalize hwl : ws.length = wl at *
    have HWQ := hideIt hwl
    clear hwl h3 ET HWL
    go_enter Tryd.func29, Tryd.ntmps29
    go_wp2_with fail
    refine (HSP.out _).mono ?_
    rintro e u1 ⟨v, rfl, ho, hb⟩
    have B1 := hideIt (below_then B0.out hb)
    have Z1 := hideIt (Z0.out.keep hb Z0.out.lt)
    obtain ⟨A, c, rfl, _⟩ := ho.open
    rw [HWQ.out]
    have q0 := Z1.out.fz 0
    have q1 := Z1.out.fz 1
    have q2 := Z1.out.fz 2
    have q3 := Z1.out.fz 3
    have k0 := Z1.out.c0
    have k1 := Z1.out.c1
    have k2 := Z1.out.c2
    have k3 := Z1.out.c3
    have ZS := hideIt (Z1.out.set (.string ⟨#[]⟩) (.string ⟨#[]⟩) (.slice none 0 0) (.slice none 0 0))
    clear hb ho HSP
    go_wp2_with fail
    (try simp only [Exit.inBlock, Exit.then])
    refine bodyPost_ret (results_Q2 Tryd.results29 _ _ w.heap.size (.string ⟨#[]⟩) (.string ⟨#[]⟩) (.slice none 0 0) (.slice none 0 0) _ rfl rfl (by first | exact ZS.out | exact Z1.out)) rfl ?_
    exact ⟨by rw [E.out]; rfl, by first | exact below_setQ B1.out (Nat.le_refl _) _ _ _ _ | exact B1.out⟩
  obtain ⟨m, p, v, rfl⟩ : ∃ m p v, ws = [m, p, v] := by
    match ws, h3 with
    | [a, b, c], _ => exact ⟨a, b, c, rfl⟩
  have HT := hideIt (fun w => reftoken_any m w (HWL.out m (by simp)))
  have HPA := hideIt (fun w => refpath_any p w (HWL.out p (by simp)))
  have ER : Hid (R = if tokenL m && (pathL p && decide (v = verL)) then ((m, p), 0) else (PairZ, 11)) := hideIt ET.out
  have hqv : ((strOf v).toList == [72, 84, 84, 80, 47, 49, 46, 49]) = decide (v = verL) := by
    rw [strOf_toList]
    by_cases h : v = verL
    · subst h; rfl
    · rw [decide_eq_false h, beq_eq_false_iff_ne]; exact h
  clear ET HWL h3
  generalize decide (v = verL) = dv at *
  generalize hsv : strOf v = sv at *
  have HSV := hideIt hsv
  clear hsv
  generalize hsm : strOf m = sm at *
  generalize hsp : strOf p = sp at *
  have HSM := hideIt hsm
  have HSPP := hideIt hsp
  clear hsm hsp
  go_enter Tryd.func29, Tryd.ntmps29
  go_wp2_with fail
  refine (HSP.out _).mono ?_
  rintro e u1 ⟨sl, rfl, ho, hb⟩
  have B1 := hideIt (below_then B0.out hb)
  have Z1 := hideIt (Z0.out.keep hb Z0.out.lt)
  obtain ⟨A, c, rfl, hlc, hcm, hst⟩ := ho.open
  obtain ⟨sb, rfl, hsb, hcell⟩ := hst (by simp)
  have y0 := hcell 0 m rfl
  have y1 := hcell 1 p rfl
  have y2 := hcell 2 v rfl
  rw [HSM.out] at y0
  rw [HSPP.out] at y1
  rw [HSV.out] at y2
  simp only [List.length_cons, List.length_nil, Nat.zero_add, Nat.reduceAdd] at *
  have q0 := Z1.out.fz 0
  have q1 := Z1.out.fz 1
  have q2 := Z1.out.fz 2
  have q3 := Z1.out.fz 3
  have k0 := Z1.out.c0
  have k1 := Z1.out.c1
  have k2 := Z1.out.c2
  have k3 := Z1.out.c3
  have ZS := hideIt (Z1.out.set (.string ⟨#[]⟩) (.string ⟨#[]⟩) (.slice none 0 0) (.slice none 0 0))
  clear hb ho HSP hst hcell
  go_wp2_with fail
  refine (HT.out _).mono ?_
  rintro e u2 ⟨rfl, rfl⟩
  cases ht : tokenL m
  · rw [ht] at ER
    clear ht
    go_wp2_with fail
    (try simp only [Exit.inBlock, Exit.then])
    refine bodyPost_ret (results_Q2 Tryd.results29 _ _ w.heap.size (.string ⟨#[]⟩) (.string ⟨#[]⟩) (.slice none 0 0) (.slice none 0 0) _ rfl rfl (by first | exact ZS.out | exact Z1.out)) rfl ?_
    exact ⟨by rw [ER.out]; rfl, by first | exact below_setQ B1.out (Nat.le_refl _) _ _ _ _ | exact B1.out⟩
  rw [ht] at ER
  clear ht
  go_wp2_with fail
  refine (HPA.out _).mono ?_
  rintro e u2 ⟨rfl, rfl⟩
  cases hp : pathL p
  · rw [hp] at ER
    clear hp
    go_wp2_with fail
    (try simp only [Exit.inBlock, Exit.then])
    refine bodyPost_ret (results_Q2 Tryd.results29 _ _ w.heap.size (.string ⟨#[]⟩) (.string ⟨#[]⟩) (.slice none 0 0) (.slice none 0 0) _ rfl rfl (by first | exact ZS.out | exact Z1.out)) rfl ?_
    exact ⟨by rw [ER.out]; rfl, by first | exact below_setQ B1.out (Nat.le_refl _) _ _ _ _ | exact B1.out⟩
  rw [hp] at ER
  clear hp
  cases dv
  · have hqv2 := hqv
    go_wp2_with fail
    (try simp only [Exit.inBlock, Exit.then])
    refine bodyPost_ret (results_Q2 Tryd.results29 _ _ w.heap.size (.string ⟨#[]⟩) (.string ⟨#[]⟩) (.slice none 0 0) (.slice none 0 0) _ rfl rfl (by first | exact ZS.out | exact Z1.out)) rfl ?_
    exact ⟨by rw [ER.out]; rfl, by first | exact below_setQ B1.out (Nat.le_refl _) _ _ _ _ | exact B1.out⟩
  · have Z2 : QCell u1.drew w.heap.size (.string ⟨#[]⟩) (.string ⟨#[]⟩) (.slice none 0 0) (.slice none 0 0) := Z1.out
    have ZT := hideIt (Z2.set (.string sm) (.string sp) (.slice none 0 0) (.slice none 0 0))
    have BT := hideIt (below_setQ B1.out.drew (Nat.le_refl _) (.string sm) (.string sp) (.slice none 0 0) (.slice none 0 0))
    clear Z2 ZS
    go_wp2_with fail
    go_region
    go_wp2_with fail
    (try simp only [Exit.inBlock, Exit.then])
    refine bodyPost_ret (results_Q2 Tryd.results29 _ _ w.heap.size (.string sm) (.string sp) (.slice none 0 0) (.slice none 0 0) _ rfl rfl (by exact ZT.out)) rfl ?_
    exact ⟨by rw [ER.out]; simp only [Bool.true_and, if_true]; rw [HSM.out, HSPP.out]; rfl, BT.out⟩
theorem go_reffirst : goFn Tryd.prog 29 = true := by kernel_rfl
end Go.Proofs.YtbojigimldfghaaDoor

/- Contracts of the reference's fields and body. -/
namespace Go.Proofs.YtbojigimldfghaaDoor
open Go.ChangeShapes Go.WideShapes Go.ChangeAt Go.RowKit
set_option linter.unusedVariables false
set_option linter.unusedSimpArgs false

set_option maxRecDepth 8000 in
set_option maxHeartbeats 4000000 in
theorem reffields_any (A : Option Addr) (n c : Nat) (ls : List (List UInt8)) (w : World) (hp : StrsOff w A ls) (hn : ls.length = n) (hx : ∀ x ∈ ls, x.length ≤ 100000) (hnn : n ≤ 100000) :
    Calls Tryd.prog 30 #[.slice A n c] w fun e w' => (∃ v, e = .returned (.tuple #[v, .int .i64 ((fieldsL ls).2 : Int)]) ∧ POwn w.heap.size v (fieldsL ls).1 w') ∧ Below w.heap.size w w' := by
  obtain ⟨RR, hRR⟩ : ∃ R, fieldsL ls = R := ⟨_, rfl⟩
  have HR := hideIt hRR
  rw [hRR]
  clear hRR
  by_cases h40 : 40 < n
  · have E : Hid (RR = ([], 3)) := hideIt (by rw [← HR.out, fieldsL, if_pos (by omega)])
    have h1 : (40 : Int) < (n : Int) := by omega
    go_enter Tryd.func30, Tryd.ntmps30
    go_wp2_with fail
    go_ret2
    exact ⟨⟨.slice none 0 0, by rw [E.out]; rfl, by rw [E.out]; exact POwn.nil _ _⟩, Below.refl _ _⟩
  have h1 : ¬ (40 : Int) < (n : Int) := by omega
  have HP := hideIt hp
  have HX := hideIt hx
  have HL := hideIt hn
  clear hp hx hn hnn
  go_enter Tryd.func30, Tryd.ntmps30
  go_wp2_with fail
  go_loopw [4, 5] (fun v i wr => ∃ j : Nat, j ≤ n ∧ i = .int .i64 (j : Int) ∧ POwn w.heap.size v (doneL ls j) wr ∧ (∀ y ∈ ls.take j, (fieldL y).2 = 0) ∧ Below w.heap.size w wr) (fun v i wr => n - (intOf i).toNat)
  case atStart => exact ⟨0, by omega, rfl, POwn.nil _ _, by simp, Below.refl _ _⟩
  case round =>
    obtain ⟨j, hj, rfl, ho, ha, hb⟩ := hrel
    have HO := hideIt ho
    have HA := hideIt ha
    have HB := hideIt hb
    clear ho ha hb
    have hdl := done_len ls j
    by_cases hlt : j < n
    · have hji : (j : Int) < (n : Int) := by omega
      obtain ⟨x, hxj⟩ : ∃ x, ls[j]? = some x := ⟨_, List.getElem?_eq_getElem (by have := HL.out; omega)⟩
      obtain ⟨b, off, rfl, hlt2, hc⟩ := (HP.out.keep HB.out) (by have := HL.out; omega)
      have c1 := hc j x hxj
      have HF := hideIt (fun w => reffield_any x w (by have := HX.out x (List.mem_of_getElem? hxj); omega))
      have DS := hideIt (done_succ ls j x hxj)
      have HXJ := hideIt hxj
      have hwj : IntKind.i64.wrap ((j : Int) + 1) = (j : Int) + 1 := IntWalk.i64_in _ (by omega)
      clear hc hxj
      by_cases hz : (fieldL x).2 = 0
      · have TS := hideIt (take_succ_all HA.out HXJ.out hz)
        rw [hz] at HF
        generalize (fieldL x).1 = p at *
        unfold pairV errI at HF
        clear hz
        generalize doneL ls j = done at *
        go_wp2_with fail
        refine (HF.out _).mono ?_
        rintro e u1 ⟨rfl, hb1⟩
        have P1 := hideIt (PCell.new u1 p)
        have B1 := hideIt (below_then (below_then HB.out hb1) (below_new u1 (.cells #[.string (strOf p.1), .string (strOf p.2)] 40)))
        have O1 := hideIt ((HO.out.keep hb1).keep (below_new u1 (.cells #[.string (strOf p.1), .string (strOf p.2)] 40)))
        have q0 := P1.out.cell0
        have q1 := P1.out.cell1
        have hdl' : Hid (done.length ≤ 1000) := hideIt (by omega)
        clear hb1 HB HO HF
        go_upto_region 8 with fail
        generalize u1.alloc (.cells #[.string (strOf p.1), .string (strOf p.2)] 40) = X1 at *
        generalize u1.heap.size = g1 at *
        go_wp2_with (at_builtin; refine wpList_appP1 rfl (.tmp 28) (.tmp 30) rfl w.heap.size _ done p rfl O1.out rfl hdl'.out B1.out.size ?_)
        intro v4 w4 o4 g4
        have O4 := hideIt o4
        have B4 : Hid (Below w.heap.size w w4) := hideIt (B1.out.trans (g4 _ (Nat.le_refl _)))
        clear o4 g4 q0 q1 P1 B1 O1
        go_wp2_with fail
        go_roundw
        case rel => exact ⟨j + 1, by omega, by go_num, by rw [DS.out]; exact O4.out, TS.out, B4.out⟩
        case measure => simp [intOf]; omega
      · have E : Hid (RR = ([], (fieldL x).2)) := hideIt (by rw [← HR.out, fieldsL, if_neg (by have := HL.out; omega), bad_at HA.out HXJ.out hz])
        obtain ⟨m, hm⟩ : ∃ m, (fieldL x).2 = m := ⟨_, rfl⟩
        rw [hm] at HF E hz
        have hne : ((m : Int) != 0) = true := by rw [bne_iff_ne]; omega
        have HZ := hideIt hz
        generalize (fieldL x).1 = p at *
        unfold pairV errI at HF
        clear hm hz DS
        generalize doneL ls j = done at *
        go_wp2_with fail
        refine (HF.out _).mono ?_
        rintro e u1 ⟨rfl, hb1⟩
        have B1 := hideIt (below_then (below_then HB.out hb1) (below_new u1 (.cells #[.string (strOf p.1), .string (strOf p.2)] 40)))
        clear hb1 HB HO HF
        go_wp2_with fail
        go_ret2
        exact ⟨⟨.slice none 0 0, by rw [E.out]; rfl, by rw [E.out]; exact POwn.nil _ _⟩, B1.out⟩
    · obtain rfl : j = n := by omega
      have hji : ¬ (j : Int) < (j : Int) := by omega
      have E : Hid (RR = (doneL ls j, 0)) := hideIt (by
        have ht : ls.take j = ls := List.take_of_length_le (by have := HL.out; omega)
        have := HA.out
        rw [ht] at this
        rw [← HR.out, fieldsL, if_neg (by have := HL.out; omega), bad_none this, doneL, ht])
      go_wp2_with fail
      go_ret2
      exact ⟨⟨_, by rw [E.out]; rfl, by rw [E.out]; exact HO.out⟩, HB.out⟩
theorem go_reffields : goFn Tryd.prog 30 = true := by kernel_rfl
set_option maxRecDepth 8000 in
set_option maxHeartbeats 4000000 in
theorem refbody_any (A : Option Addr) (c k : Nat) (fs : List PairL) (w : World) (hp : PairsAt w A fs) (hc1 : fs.length ≤ c) (hc2 : c ≤ 9223372036854775807) (hfew : fs.length ≤ 100000) (hv : ∀ x ∈ fs, x.1.length ≤ 100000 ∧ x.2.length ≤ 100000) :
    Calls Tryd.prog 31 #[.slice A fs.length c, .int .i64 (k : Int)] w fun e w' => e = .returned (.int .i64 (bodyL fs k : Int)) ∧ Below w.heap.size w w' := by
  have F0 := hideIt hp
  have HAL : Hid (∀ nm : List UInt8, nm.length ≤ 100 → ∀ w', PairsAt w' A fs → Calls Tryd.prog 45 #[.slice A fs.length c, .string (strOf nm)] w' fun e w'' => ∃ v, e = .returned v ∧ SOwn w'.heap.size v (allL fs nm) w'' ∧ Below w'.heap.size w' w'') :=
    hideIt fun nm h w' hpa => refall_any A fs.length c fs nm w' hpa rfl hfew (by omega) (fun y hy => by have := hv y hy; omega) hc1 hc2
  have HA1 := hideIt (HAL.out lengL (by decide))
  have HA2 := hideIt (HAL.out hostL (by decide))
  have HA3 := hideIt (HAL.out codeL (by decide))
  have hs1 : strOf lengL = ⟨#[67, 111, 110, 116, 101, 110, 116, 45, 76, 101, 110, 103, 116, 104]⟩ := rfl
  have hs2 : strOf hostL = ⟨#[72, 111, 115, 116]⟩ := rfl
  have hs3 : strOf codeL = ⟨#[84, 114, 97, 110, 115, 102, 101, 114, 45, 69, 110, 99, 111, 100, 105, 110, 103]⟩ := rfl
  rw [hs1] at HA1
  rw [hs2] at HA2
  rw [hs3] at HA3
  have HTL : Hid (∀ t ∈ allL fs lengL, t.length ≤ 100000) := hideIt fun t ht => by
    obtain ⟨q, hq, rfl⟩ := all_in t ht
    exact (hv q hq).2
  have HBH : Hid ((allL fs hostL).length ≠ 1 → bodyL fs k = 14) := hideIt body_host
  have HBC : Hid ((allL fs codeL).length ≠ 0 → bodyL fs k = 14) := hideIt body_code
  have HBL : Hid (¬ (allL fs lengL).length ≤ 1 → bodyL fs k = 14) := hideIt body_leng
  have HBW : Hid ((allL fs hostL).length = 1 → (allL fs codeL).length = 0 → (allL fs lengL).length ≤ 1 → bodyL fs k = if wantL (allL fs lengL) = some k then 0 else 13) := hideIt body_want
  obtain ⟨R, hR⟩ : ∃ R, bodyL fs k = R := ⟨_, rfl⟩
  rw [hR] at HBH HBC HBL HBW ⊢
  clear hR hs1 hs2 hs3 HAL hp hv
  generalize allL fs lengL = tl at *
  generalize allL fs hostL = th at *
  generalize allL fs codeL = tc at *
  generalize fs.length = nf at *
  clear hc1 hc2 hfew
  go_enter Tryd.func31, Tryd.ntmps31
  go_wp2_with fail
  refine (HA1.out _ F0.out).mono ?_
  rintro e u1 ⟨v1, rfl, ho, hb⟩
  have B1 := hideIt hb
  have F1 := hideIt (F0.out.keep hb)
  obtain ⟨TA, tcap, rfl, _, _, hst⟩ := ho.open
  have T1 := hideIt hst
  clear hb ho hst HA1 F0
  go_wp2_with fail
  refine (HA2.out _ F1.out).mono ?_
  rintro e u2 ⟨v2, rfl, ho, hb⟩
  have B2 := hideIt (below_then B1.out hb)
  have F2 := hideIt (F1.out.keep hb)
  have T2 := hideIt (T1.out.keep hb)
  obtain ⟨HA_, hcap, rfl, _⟩ := ho.open
  clear hb ho HA2 F1 T1 B1
  by_cases h1 : th.length = 1
  case neg =>
    have E := hideIt (HBH.out h1)
    have hq : ((th.length : Int) != 1) = true := by rw [bne_iff_ne]; omega
    clear h1
    generalize th.length = thn at *
    go_wp2_with fail
    go_ret
    exact ⟨by rw [E.out]; rfl, B2.out⟩
  have hq : ((th.length : Int) != 1) = false := by rw [h1]; rfl
  have HBW1 := hideIt (HBW.out h1)
  clear h1 HBH HBW
  generalize th.length = thn at *
  go_wp2_with fail
  refine (HA3.out _ F2.out).mono ?_
  rintro e u3 ⟨v3, rfl, ho, hb⟩
  have B3 := hideIt (below_then B2.out hb)
  have T3 := hideIt (T2.out.keep hb)
  obtain ⟨CA, ccap, rfl, _⟩ := ho.open
  clear hb ho HA3 F2 T2 B2
  by_cases h2 : tc.length = 0
  case neg =>
    have E := hideIt (HBC.out h2)
    have hq2 : (0 : Int) < (tc.length : Int) := by omega
    clear h2
    generalize tc.length = tcn at *
    go_wp2_with fail
    go_ret
    exact ⟨by rw [E.out]; rfl, B3.out⟩
  have hq2 : ¬ (0 : Int) < (tc.length : Int) := by omega
  have HBW2 := hideIt (HBW1.out h2)
  clear h2 HBC HBW1
  generalize tc.length = tcn at *
  by_cases h3 : tl.length ≤ 1
  case neg =>
    have E := hideIt (HBL.out h3)
    have hq3 : (1 : Int) < (tl.length : Int) := by omega
    clear h3
    generalize tl.length = tln at *
    go_wp2_with fail
    go_ret
    exact ⟨by rw [E.out]; rfl, B3.out⟩
  have hq3 : ¬ (1 : Int) < (tl.length : Int) := by omega
  have E0 := hideIt (HBW2.out h3)
  clear HBL HBW2
  cases tl with
  | nil =>
    have E1 : Hid (R = if k = 0 then 0 else 13) := hideIt (by
      rw [E0.out]
      by_cases h : k = 0
      · subst h; rfl
      · rw [if_neg h, if_neg (by unfold wantL; simpa using fun e => h e.symm)])
    have hl0 : ((([] : List (List UInt8)).length : Int) == 1) = false := rfl
    clear E0 h3
    by_cases hk : k = 0
    · subst hk
      go_wp2_with fail
      go_ret
      exact ⟨by rw [E1.out]; rfl, B3.out⟩
    · have hkk : ((0 : Int) != (k : Int)) = true := by rw [bne_iff_ne]; omega
      have E2 : Hid (R = 13) := hideIt (by rw [E1.out, if_neg hk])
      clear E1 hk
      generalize (k : Int) = ki at *
      go_wp2_with fail
      go_ret
      exact ⟨by rw [E2.out]; rfl, B3.out⟩
  | cons t r =>
    have hr : r = [] := by
      cases r with
      | nil => rfl
      | cons a b => simp at h3
    subst hr
    obtain ⟨b, rfl, hlt, hcc⟩ := T3.out (by simp)
    have c0 := hcc 0 t rfl
    have hl := HTL.out t (by simp)
    have hsz := strOf_size t
    have hdt : (strOf t).data.toList = t := by simp [strOf]
    have HD := hideIt (fun w => refdec_any (strOf t) 4000 w (by unfold maxLen; omega) (by decide))
    rw [hdt] at HD
    have hl1 : ((([t] : List (List UInt8)).length : Int) == 1) = true := rfl
    have EW : Hid (wantL [t] = if decB t 4000 then some (decN t) else none) := hideIt rfl
    have hzz : Hid (decB t 4000 = true → decV t 4000 = (decN t : Int)) := hideIt fun h => by unfold decV; rw [if_pos h]
    clear hdt hsz hl hcc h3
    simp only [List.length_cons, List.length_nil, Nat.zero_add] at *
    cases hd : decB t 4000
    · rw [hd] at HD EW
      have E2 : Hid (R = 13) := hideIt (by rw [E0.out, EW.out]; rfl)
      generalize decV t 4000 = dv at *
      go_wp2_with fail
      refine (HD.out _).mono ?_
      rintro e u4 ⟨rfl, rfl⟩
      go_wp2_with fail
      go_ret
      exact ⟨by rw [E2.out]; rfl, B3.out⟩
    · rw [hd, hzz.out hd] at HD
      rw [hd] at EW
      have E1 : Hid (R = if decN t = k then 0 else 13) := hideIt (by
        rw [E0.out, EW.out]
        simp)
      clear E0 EW hzz
      generalize decN t = dn at *
      by_cases hk : dn = k
      · subst hk
        have E2 : Hid (R = 0) := hideIt (by rw [E1.out, if_pos rfl])
        generalize (dn : Int) = ki at *
        go_wp2_with fail
        refine (HD.out _).mono ?_
        rintro e u4 ⟨rfl, rfl⟩
        go_wp2_with fail
        go_ret
        exact ⟨by rw [E2.out]; rfl, B3.out⟩
      · have hkk : ((dn : Int) != (k : Int)) = true := by rw [bne_iff_ne]; omega
        have E2 : Hid (R = 13) := hideIt (by rw [E1.out, if_neg hk])
        clear E1 hk
        generalize (k : Int) = ki at *
        generalize (dn : Int) = di at *
        go_wp2_with fail
        refine (HD.out _).mono ?_
        rintro e u4 ⟨rfl, rfl⟩
        go_wp2_with fail
        go_ret
        exact ⟨by rw [E2.out]; rfl, B3.out⟩
theorem go_refbody : goFn Tryd.prog 31 = true := by kernel_rfl
end Go.Proofs.YtbojigimldfghaaDoor

/- Contract of the reference's Parse. -/
namespace Go.Proofs.YtbojigimldfghaaDoor
open Go.ChangeShapes Go.WideShapes Go.ChangeAt Go.RowKit
set_option linter.unusedVariables false
set_option linter.unusedSimpArgs false

/-- what the reference's Parse answers -/
def RefPost (R : ReqL × Nat) (w : World) (e : Ending) (w' : World) : Prop :=
  ∃ fv A c, e = .returned (.tuple #[reqV R.1 fv A c, .int .i64 (R.2 : Int)]) ∧ ReqParts fv A c R.1 w' ∧ Below w.heap.size w w'
theorem RefPost.bad {R : ReqL × Nat} {w w' : World} {n : Nat} (h : R = (ReqZ, n)) (hb : Below w.heap.size w w') : RefPost R w (.returned (.tuple #[.agg #[.string ⟨#[]⟩, .string ⟨#[]⟩, .slice none 0 0, .slice none 0 0], .int .i64 (n : Int)])) w' :=
  ⟨.slice none 0 0, none, 0, by rw [h]; rfl, by rw [h]; exact ReqParts.zero _, hb⟩
theorem fields_off {base : Nat} {v : Value} {ps : List PairL} {w : World} (h : POwn base v ps w) (g i : Nat) (x : Value) (hg : g < base) : POwn base v ps (w.setCell ⟨g, i, none⟩ x) :=
  h.block fun j hj => heap_setCell_past _ _ _ _ _ (by have := (h.lt j hj).1; omega)
set_option maxRecDepth 8000 in
set_option maxHeartbeats 8000000 in
theorem refparse_any (A : Option Addr) (bs : List UInt8) (n c : Nat) (w : World) (hp : PieceOk w ⟨A, c, bs⟩) (hn : bs.length = n) (hl : n ≤ 100000) :
    Calls Tryd.prog 17 #[.slice A n c] w (RefPost (reqL bs) w) := by
  have hfit := hp.fits
  simp only at hfit
  have hnil := hp.nil
  simp only at hnil
  have Z0 := hideIt (QCell.zero w)
  have HZ : zeroQ = .cells #[.string ⟨#[]⟩, .string ⟨#[]⟩, .slice none 0 0, .slice none 0 0] 33 := rfl
  have B0 := hideIt (below_new w zeroQ)
  have HLI := hideIt (fun w' (hb : Below w.heap.size w w') => reflines_any A bs n c w' (hp.keep hb) hn hl)
  have HP := hideIt hp
  obtain ⟨R, hR⟩ : ∃ R, reqL bs = R := ⟨_, rfl⟩
  have HR := hideIt hR
  rw [hR]
  rw [HZ] at Z0 B0
  clear hp hR HZ
  cases hL : linesL bs with
  | none =>
    have E : Hid (R = (ReqZ, 10)) := hideIt (by rw [← HR.out, req_none hL])
    have hT : linesT bs = ([], 0, false) := by unfold linesT; rw [hL]
    rw [hT] at HLI
    clear hL hT
    go_enter Tryd.func17, Tryd.ntmps17
    go_wp2_with fail
    refine (HLI.out _ B0.out).mono ?_
    rintro e u1 ⟨lv, rfl, ho, hb⟩
    have B1 := hideIt (below_then B0.out hb)
    have Z1 := hideIt (Z0.out.keep hb Z0.out.lt)
    obtain ⟨LA, lc, rfl, _⟩ := ho.open
    have q0 := Z1.out.fz 0
    have q1 := Z1.out.fz 1
    have q2 := Z1.out.fz 2
    have q3 := Z1.out.fz 3
    have k0 := Z1.out.c0
    have k1 := Z1.out.c1
    have k2 := Z1.out.c2
    have k3 := Z1.out.c3
    have ZS := hideIt (Z1.out.set (.string ⟨#[]⟩) (.string ⟨#[]⟩) (.slice none 0 0) (.slice none 0 0))
    have BS := hideIt (below_setQ B1.out (Nat.le_refl _) (.string ⟨#[]⟩) (.string ⟨#[]⟩) (.slice none 0 0) (.slice none 0 0))
    clear hb HLI ho
    go_wp2_with fail
    (try simp only [Exit.inBlock, Exit.then])
    refine bodyPost_ret (results_Q2 Tryd.results17 _ _ w.heap.size (.string ⟨#[]⟩) (.string ⟨#[]⟩) (.slice none 0 0) (.slice none 0 0) _ rfl rfl (by first | exact ZS.out | exact Z1.out)) rfl ?_
    exact RefPost.bad E.out (by first | exact BS.out | exact B1.out)
  | some z =>
    obtain ⟨ls, r⟩ := z
    have hT : linesT bs = (ls, n - r.length, true) := by unfold linesT; rw [hL, hn]
    rw [hT] at HLI
    obtain ⟨hl1, hl2, hl3⟩ := lines_len hL
    cases ls with
    | nil =>
      have E : Hid (R = (ReqZ, 10)) := hideIt (by rw [← HR.out, req_some hL]; rfl)
      clear hL hT hl1 hl2 hl3
      generalize n - r.length = en at *
      go_enter Tryd.func17, Tryd.ntmps17
      go_wp2_with fail
      refine (HLI.out _ B0.out).mono ?_
      rintro e u1 ⟨lv, rfl, ho, hb⟩
      have B1 := hideIt (below_then B0.out hb)
      have Z1 := hideIt (Z0.out.keep hb Z0.out.lt)
      obtain ⟨LA, lc, rfl, _⟩ := ho.open
      have q0 := Z1.out.fz 0
      have q1 := Z1.out.fz 1
      have q2 := Z1.out.fz 2
      have q3 := Z1.out.fz 3
      have k0 := Z1.out.c0
      have k1 := Z1.out.c1
      have k2 := Z1.out.c2
      have k3 := Z1.out.c3
      have ZS := hideIt (Z1.out.set (.string ⟨#[]⟩) (.string ⟨#[]⟩) (.slice none 0 0) (.slice none 0 0))
      have BS := hideIt (below_setQ B1.out (Nat.le_refl _) (.string ⟨#[]⟩) (.string ⟨#[]⟩) (.slice none 0 0) (.slice none 0 0))
      clear hb HLI ho
      go_wp2_with fail
      (try simp only [Exit.inBlock, Exit.then])
      refine bodyPost_ret (results_Q2 Tryd.results17 _ _ w.heap.size (.string ⟨#[]⟩) (.string ⟨#[]⟩) (.slice none 0 0) (.slice none 0 0) _ rfl rfl (by first | exact ZS.out | exact Z1.out)) rfl ?_
      exact RefPost.bad E.out (by first | exact BS.out | exact B1.out)
    | cons x ls =>
      have E : Hid (R = afterL (x :: ls) r) := hideIt (by rw [← HR.out, req_some hL])
      obtain ⟨en, hen⟩ : ∃ en, n - r.length = en := ⟨_, rfl⟩
      rw [hn, hen] at hl3
      rw [hen] at HLI hT
      have hrl : r.length ≤ n := by omega
      have HXL : Hid (x.length ≤ 100000) := hideIt (by have := hl2 x (by simp); omega)
      have HLL : Hid (∀ y ∈ ls, y.length ≤ 100000) := hideIt fun y hy => by have := hl2 y (by simp [hy]); omega
      have hln : ls.length ≤ 100000 := by have := hl1; simp at this; omega
      have hel : en ≤ n := by omega
      have her : n - en = r.length := by omega
      have hwe : IntKind.i64.wrap ((n : Int) - (en : Int)) = (r.length : Int) := by rw [show (n : Int) - (en : Int) = (r.length : Int) by omega]; exact IntWalk.i64_in _ (by omega)
      obtain ⟨A1, s1, s2, s3, s4⟩ := slice_lo A n c en hel (by omega) hnil
      have HPR : Hid (∀ w', Below w.heap.size w w' → PieceOk w' ⟨A1, c - en, r⟩) := hideIt fun w' hb => by
        have := piece_of A1 bs n c en w' A (HP.out.keep hb) hn hel s2 s4
        rwa [hl3] at this
      rw [her] at s1
      have HFI := hideIt (fun w' => reffirst_any x w' HXL.out)
      have HFL := hideIt (fields_len HLL.out)
      have HFF : Hid ((fieldsL ls).1.length ≤ 40) := hideIt fields_few
      have HZF : Hid ((firstL x).2 ≠ 0 → R = (ReqZ, (firstL x).2)) := hideIt fun h => by rw [E.out, after_first h]
      have HZG : Hid ((firstL x).2 = 0 → (fieldsL ls).2 ≠ 0 → R = (ReqZ, (fieldsL ls).2)) := hideIt fun h h2 => by rw [E.out, after_fields h h2]
      have HZB : Hid ((firstL x).2 = 0 → (fieldsL ls).2 = 0 → R = if bodyL (fieldsL ls).1 r.length ≠ 0 then (ReqZ, bodyL (fieldsL ls).1 r.length) else (⟨(firstL x).1.1, (firstL x).1.2, (fieldsL ls).1, r⟩, 0)) := hideIt fun h h2 => by rw [E.out, after_body h h2]
      clear hL hT hl1 hl2 hl3 hen hel her s2 s3 s4 hrl E HR
      generalize c - en = c1 at *
      generalize (firstL x).1.1 = m at *
      generalize (firstL x).1.2 = p at *
      generalize (firstL x).2 = k1 at *
      go_enter Tryd.func17, Tryd.ntmps17
      go_wp2_with fail
      refine (HLI.out _ B0.out).mono ?_
      rintro e u1 ⟨lv, rfl, ho, hb⟩
      have B1 := hideIt (below_then B0.out hb)
      have Z1 := hideIt (Z0.out.keep hb Z0.out.lt)
      obtain ⟨LA, lc, rfl, hlc, hlm, hst⟩ := ho.open
      obtain ⟨LA1, t1, t2⟩ := slice_strs LA (x :: ls).length lc (by simp) hlc
      have HT2 := hideIt (fun w' (hb : Below u1.heap.size u1 w') => t2 w' (x :: ls) rfl (hst.keep hb))
      obtain ⟨lb, rfl, hlb, hlcell⟩ := hst (by simp)
      have y0 := hlcell 0 x rfl
      have hgt : (0 : Int) < ((x :: ls).length : Int) := by rw [List.length_cons]; omega
      have hnz : (((x :: ls).length : Int) == 0) = false := by rw [beq_eq_false_iff_ne]; omega
      have hnn : (x :: ls).length - 1 = ls.length := by simp
      rw [hnn] at t1
      clear hb HLI ho Z0 B0 hst t2 hlcell hlc hlm hnn
      generalize (x :: ls).length = nl at *
      go_wp2_with fail
      refine (HFI.out _).mono ?_
      rintro e u2 ⟨rfl, hb⟩
      have S2 := hideIt (HT2.out _ hb)
      have Q7 := hideIt (QCell.new u2 (.string (strOf m)) (.string (strOf p)) (.slice none 0 0) (.slice none 0 0))
      have hb7 := below_new u2 (.cells #[.string (strOf m), .string (strOf p), .slice none 0 0, .slice none 0 0] 33)
      have B2 := hideIt (below_then (below_then B1.out hb) hb7)
      have Z2 := hideIt ((Z1.out.keep hb Z1.out.lt).keep hb7 (Nat.lt_of_lt_of_le Z1.out.lt hb.size))
      have S7 := hideIt (S2.out.keep hb7)
      have HG7 : Hid (w.heap.size < u2.heap.size) := hideIt (Nat.lt_of_lt_of_le Z1.out.lt hb.size)
      clear hb HFI Z1 y0 S2 hb7 B1
      rw [List.drop_one, List.tail_cons] at S7
      go_upto_region 5 with fail
      generalize u2.alloc (.cells #[.string (strOf m), .string (strOf p), .slice none 0 0, .slice none 0 0] 33) = X at *
      generalize u2.heap.size = g7 at *
      have q0 := Z2.out.fz 0
      have q1 := Z2.out.fz 1
      have q2 := Z2.out.fz 2
      have q3 := Z2.out.fz 3
      have k0 := Z2.out.c0
      have k1' := Z2.out.c1
      have k2 := Z2.out.c2
      have k3 := Z2.out.c3
      have ZS := hideIt (Z2.out.set (.string ⟨#[]⟩) (.string ⟨#[]⟩) (.slice none 0 0) (.slice none 0 0))
      have BS := hideIt (below_setQ B2.out (Nat.le_refl _) (.string ⟨#[]⟩) (.string ⟨#[]⟩) (.slice none 0 0) (.slice none 0 0))
      by_cases hf : k1 = 0
      case neg =>
        have E2 := hideIt (HZF.out hf)
        have hne : ((k1 : Int) != 0) = true := by rw [bne_iff_ne]; omega
        clear hf HZF HZG HZB
        go_wp2_with fail
        (try simp only [Exit.inBlock, Exit.then])
        refine bodyPost_ret (results_Q2 Tryd.results17 _ _ w.heap.size (.string ⟨#[]⟩) (.string ⟨#[]⟩) (.slice none 0 0) (.slice none 0 0) _ rfl rfl (by first | exact ZS.out | exact Z2.out)) rfl ?_
        exact RefPost.bad E2.out (by first | exact BS.out | exact B2.out)
      subst hf
      have HZG1 := hideIt (HZG.out rfl)
      have HZB1 := hideIt (HZB.out rfl)
      have HFO := hideIt (reffields_any LA1 ls.length (lc - 1) ls X S7.out rfl HLL.out hln)
      clear HZF HZG HZB q0 q1 q2 q3 k0 k1' k2 k3 ZS BS
      generalize lc - 1 = lc1 at *
      generalize (fieldsL ls).2 = k2 at *
      generalize (fieldsL ls).1 = fs at *
      go_wp2_with fail
      refine HFO.out.mono ?_
      rintro e u3 ⟨⟨fv, rfl, hfo⟩, hb⟩
      have B3 := hideIt (below_then B2.out hb)
      have Z3 := hideIt (Z2.out.keep hb Z2.out.lt)
      have Q3 := hideIt (Q7.out.keep hb Q7.out.lt)
      have O3 := hideIt (hfo.base (base' := g7 + 1) Q7.out.lt)
      obtain ⟨FA, fc, rfl, f1, f2, f3, f4⟩ := hfo.reads.form
      have F4 := hideIt f4
      clear hb HFO S7 Z2 HT2 hfo f4 Q7 B2
      have q0 := Z3.out.fz 0
      have q1 := Z3.out.fz 1
      have q2 := Z3.out.fz 2
      have q3 := Z3.out.fz 3
      have k0 := Z3.out.c0
      have k1' := Z3.out.c1
      have k2' := Z3.out.c2
      have k3 := Z3.out.c3
      have ZS := hideIt (Z3.out.set (.string ⟨#[]⟩) (.string ⟨#[]⟩) (.slice none 0 0) (.slice none 0 0))
      have BS := hideIt (below_setQ B3.out (Nat.le_refl _) (.string ⟨#[]⟩) (.string ⟨#[]⟩) (.slice none 0 0) (.slice none 0 0))
      by_cases hg : k2 = 0
      case neg =>
        have E2 := hideIt (HZG1.out hg)
        have hne : ((k2 : Int) != 0) = true := by rw [bne_iff_ne]; omega
        clear hg HZG1 HZB1
        go_wp2_with fail
        (try simp only [Exit.inBlock, Exit.then])
        refine bodyPost_ret (results_Q2 Tryd.results17 _ _ w.heap.size (.string ⟨#[]⟩) (.string ⟨#[]⟩) (.slice none 0 0) (.slice none 0 0) _ rfl rfl (by first | exact ZS.out | exact Z3.out)) rfl ?_
        exact RefPost.bad E2.out (by first | exact BS.out | exact B3.out)
      subst hg
      have HZB2 := hideIt (HZB1.out rfl)
      have HBO := hideIt (refbody_any FA fc r.length fs u3 F4.out f1 f2 (by have := HFF.out; omega) HFL.out)
      clear HZG1 HZB1 q0 q1 q2 q3 k0 k1' k2' k3 ZS BS f1 f2 f3
      generalize bodyL fs r.length = kb at *
      generalize hnf : fs.length = nf at *
      have HNF := hideIt hnf
      clear hnf
      go_wp2_with fail
      refine HBO.out.mono ?_
      rintro e u4 ⟨rfl, hb⟩
      have B4 := hideIt (below_then B3.out hb)
      have Z4 := hideIt (Z3.out.keep hb Z3.out.lt)
      have Q4 := hideIt (Q3.out.keep hb Q3.out.lt)
      have O4 := hideIt (O3.out.keep hb)
      clear hb HBO Z3 Q3 O3 F4 B3
      by_cases hk : kb = 0
      case neg =>
        have q0 := Z4.out.fz 0
        have q1 := Z4.out.fz 1
        have q2 := Z4.out.fz 2
        have q3 := Z4.out.fz 3
        have k0 := Z4.out.c0
        have k1' := Z4.out.c1
        have k2' := Z4.out.c2
        have k3 := Z4.out.c3
        have ZS := hideIt (Z4.out.set (.string ⟨#[]⟩) (.string ⟨#[]⟩) (.slice none 0 0) (.slice none 0 0))
        have BS := hideIt (below_setQ B4.out (Nat.le_refl _) (.string ⟨#[]⟩) (.string ⟨#[]⟩) (.slice none 0 0) (.slice none 0 0))
        have E2 : Hid (R = (ReqZ, kb)) := hideIt (by rw [HZB2.out, if_pos hk])
        have hne : ((kb : Int) != 0) = true := by rw [bne_iff_ne]; omega
        clear hk HZB2
        go_wp2_with fail
        (try simp only [Exit.inBlock, Exit.then])
        refine bodyPost_ret (results_Q2 Tryd.results17 _ _ w.heap.size (.string ⟨#[]⟩) (.string ⟨#[]⟩) (.slice none 0 0) (.slice none 0 0) _ rfl rfl (by first | exact ZS.out | exact Z4.out)) rfl ?_
        exact RefPost.bad E2.out (by first | exact BS.out | exact B4.out)
      subst hk
      have E2 : Hid (R = (⟨m, p, fs, r⟩, 0)) := hideIt (by rw [HZB2.out, if_neg (by simp)])
      clear HZB2
      have a2 := Q4.out.fz 2
      have a3 := Q4.out.fz 3
      have d0 := Q4.out.c0
      have d1 := Q4.out.c1
      have d2 := Q4.out.c2
      have d3 := Q4.out.c3
      have Q5 := Q4.out.set2 (.slice FA nf fc)
      have b3 := Q5.c3
      have Q6 := Q5.set3 (.slice A1 r.length c1)
      obtain ⟨Y, hY⟩ : ∃ Y, (u4.setCell ⟨g7, 2, none⟩ (.slice FA nf fc)).setCell ⟨g7, 3, none⟩ (.slice A1 r.length c1) = Y := ⟨_, rfl⟩
      have Z6 : QCell Y w.heap.size (.string ⟨#[]⟩) (.string ⟨#[]⟩) (.slice none 0 0) (.slice none 0 0) := by
        rw [← hY]
        exact (Z4.out.block (heap_setCell_past u4 g7 2 _ _ (by have := HG7.out; omega))).block (heap_setCell_past _ g7 3 _ _ (by have := HG7.out; omega))
      have O6 : POwn (g7 + 1) (.slice FA nf fc) fs Y := by rw [← hY]; exact fields_off (fields_off O4.out g7 2 _ (by omega)) g7 3 _ (by omega)
      have B6 : Below w.heap.size w Y := by rw [← hY]; exact (B4.out.setCell (by exact Nat.le_of_lt HG7.out) _).setCell (by exact Nat.le_of_lt HG7.out) _
      rw [hY] at Q6
      have z0 := Q6.c0
      have z1 := Q6.c1
      have z2 := Q6.c2
      have z3 := Q6.c3
      have q0 := Z6.fz 0
      have q1 := Z6.fz 1
      have q2 := Z6.fz 2
      have q3 := Z6.fz 3
      have k0 := Z6.c0
      have k1' := Z6.c1
      have k2' := Z6.c2
      have k3 := Z6.c3
      have ZT := hideIt (Z6.set (.string (strOf m)) (.string (strOf p)) (.slice FA nf fc) (.slice A1 r.length c1))
      have BT := hideIt (below_setQ B6 (Nat.le_refl _) (.string (strOf m)) (.string (strOf p)) (.slice FA nf fc) (.slice A1 r.length c1))
      have OT : Hid (POwn (g7 + 1) (.slice FA nf fc) fs ((((Y.setCell ⟨w.heap.size, 0, none⟩ (.string (strOf m))).setCell ⟨w.heap.size, 1, none⟩ (.string (strOf p))).setCell ⟨w.heap.size, 2, none⟩ (.slice FA nf fc)).setCell ⟨w.heap.size, 3, none⟩ (.slice A1 r.length c1))) := hideIt (by
        have := HG7.out
        exact fields_off (fields_off (fields_off (fields_off O6 _ 0 _ (by omega)) _ 1 _ (by omega)) _ 2 _ (by omega)) _ 3 _ (by omega))
      have HY := hideIt hY
      clear Q5 Q6 Z6 O6 B6 hY
      go_upto_region 15 with fail
      rw [HY.out]
      go_wp2_with fail
      (try simp only [Exit.inBlock, Exit.then])
      refine bodyPost_ret (results_Q2 Tryd.results17 _ _ w.heap.size (.string (strOf m)) (.string (strOf p)) (.slice FA nf fc) (.slice A1 r.length c1) _ rfl rfl (by exact ZT.out)) rfl ?_
      exact ⟨.slice FA nf fc, A1, c1, by rw [E2.out]; rfl, by rw [E2.out]; exact ⟨OT.out.reads, HPR.out _ BT.out⟩, BT.out⟩
theorem go_refparse : goFn Tryd.prog 17 = true := by kernel_rfl
end Go.Proofs.YtbojigimldfghaaDoor
