/- Contract of cookie.cookieOf. -/
import Derived.Test.YtjfmlfakdijfjaaDoorCookBase
namespace Go.Proofs.YtjfmlfakdijfjaaDoor
open Go.ChangeShapes Go.WideShapes Go.ChangeAt Go.RowKit
set_option linter.unusedVariables false
set_option linter.unusedSimpArgs false

theorem cut61 {l : List UInt8} (h : (61 : UInt8) ∈ l) : cutS [61] l = some (eqN l, l.drop ((eqN l).length + 1)) := by
  obtain ⟨n, r, rfl, hn⟩ := List.eq_append_cons_of_mem h
  have h1 := cut_app 61 [] n r hn
  rw [List.append_assoc] at h1
  rw [eqN_app n r hn, show n ++ 61 :: r = n ++ ([61] ++ r) from rfl, h1, ← List.drop_drop, List.drop_left]
  rfl
theorem cut61_no {l : List UInt8} (h : (61 : UInt8) ∉ l) : cutS [61] l = none := cut_free0 61 [] l h
theorem unq_len (v : List UInt8) : (unqL v).length ≤ v.length := by
  unfold unqL
  split
  · rw [List.length_take, List.length_drop]; omega
  · exact Nat.le_refl _
theorem cookie_eq {l : List UInt8} (h : (61 : UInt8) ∈ l) : cookieL l = if okC (eqN l, unqL (l.drop ((eqN l).length + 1))) = true then some (eqN l, unqL (l.drop ((eqN l).length + 1))) else none := by
  unfold cookieL okC
  rw [if_pos h]
  simp only [Bool.and_eq_true]
set_option maxRecDepth 8000 in
set_option maxHeartbeats 2000000 in
theorem cookieOf_any (l : List UInt8) (w : World) (hl : l.length ≤ 1000000) (hm : MaxOk w) :
    Calls Tryd.prog 40 #[.string (strOf l)] w fun e w' => e = .returned (.tuple #[pairV ((cookieL l).getD PairZ), .bool (cookieL l).isSome]) ∧ Below w.heap.size w w' := by
  have HPZ := hideIt (PCell.new w PairZ)
  have HBZ := hideIt (below_new w (.cells #[.string (strOf PairZ.1), .string (strOf PairZ.2)] 30))
  have HC := hideIt (cutstr_any l [61] _ (by simp) hl (hm.keep HBZ.out))
  have hcl := cutP_len [61] l
  by_cases h61 : (61 : UInt8) ∈ l
  · have hcut := cut61 h61
    have hEq := cookie_eq h61
    unfold cutP at HC hcl
    rw [hcut] at HC hcl
    generalize eqN l = n at *
    generalize l.drop (n.length + 1) = v at *
    simp only [Option.isSome_some] at HC hcl
    have hul := unq_len v
    have HBA := hideIt (fun w => bare_any v w (by omega))
    generalize unqL v = u at *
    have HM := hideIt (fun w => mayc_any (n, u) w (by simp only; omega) (by simp only; omega))
    have HF := hideIt (fun w => fresh_any (n, u) w (by simp only; omega) (by simp only; omega))
    obtain ⟨RR, hRR⟩ : ∃ R, cookieL l = R := ⟨_, rfl⟩
    rw [hRR] at hEq ⊢
    have EF := hideIt hEq
    clear hRR hcut hEq hcl hul h61 hl hm
    cases ho : okC (n, u)
    · rw [ho] at HM EF
      have EF2 : Hid (RR = none) := hideIt EF.out
      clear ho HF EF
      go_enter Tryd.func40, Tryd.ntmps40
      go_wp2_with fail
      refine HC.out.mono ?_
      rintro e w1 ⟨rfl, hb1⟩
      have B1 := hideIt (below_then HBZ.out hb1)
      have P0 := hideIt (HPZ.out.keep hb1 HPZ.out.lt)
      have P1 := hideIt (PCell.new w1 (n, u))
      have P0b := hideIt (P0.out.keep (below_new w1 (.cells #[.string (strOf n), .string (strOf u)] 30)) P0.out.lt)
      have B2 := hideIt (below_then B1.out (below_new w1 (.cells #[.string (strOf n), .string (strOf u)] 30)))
      clear hb1 HC HPZ HBZ P0 B1
      unfold pairV at HM
      go_wp2_with fail
      refine (HBA.out _).mono ?_
      rintro e w2 ⟨rfl, rfl⟩
      go_wp2_with fail
      refine (HM.out _).mono ?_
      rintro e w3 ⟨rfl, hb3⟩
      have B3 := hideIt (below_then B2.out hb3)
      have P3 := P0b.out.keep hb3 P0b.out.lt
      have q0 := P3.cell0
      have q1 := P3.cell1
      have q2 := P3.open0
      have q3 := P3.open1
      have PS := hideIt (P3.set PairZ)
      have BS := hideIt (below_setP B3.out (Nat.le_refl _) (.string (strOf [])) (.string (strOf [])))
      clear hb3 HM B2 B3 P0b P1 P3
      go_wp2_with fail
      (try simp only [Exit.inBlock, Exit.then])
      refine bodyPost_ret (results_P Tryd.results40 _ _ w.heap.size PairZ _ rfl rfl (by exact PS.out)) rfl ?_
      exact ⟨by rw [EF2.out]; rfl, BS.out⟩
    · rw [ho] at HM EF
      have EF2 : Hid (RR = some (n, u)) := hideIt EF.out
      clear ho EF
      go_enter Tryd.func40, Tryd.ntmps40
      go_wp2_with fail
      refine HC.out.mono ?_
      rintro e w1 ⟨rfl, hb1⟩
      have B1 := hideIt (below_then HBZ.out hb1)
      have P0 := hideIt (HPZ.out.keep hb1 HPZ.out.lt)
      have P1 := hideIt (PCell.new w1 (n, u))
      have P0b := hideIt (P0.out.keep (below_new w1 (.cells #[.string (strOf n), .string (strOf u)] 30)) P0.out.lt)
      have B2 := hideIt (below_then B1.out (below_new w1 (.cells #[.string (strOf n), .string (strOf u)] 30)))
      clear hb1 HC HPZ HBZ P0 B1
      unfold pairV at HM
      go_wp2_with fail
      refine (HBA.out _).mono ?_
      rintro e w2 ⟨rfl, rfl⟩
      go_wp2_with fail
      refine (HM.out _).mono ?_
      rintro e w3 ⟨rfl, hb3⟩
      have B3 := hideIt (below_then B2.out hb3)
      have P0 := hideIt (P0b.out.keep hb3 P0b.out.lt)
      have P1 := hideIt (P1.out.keep hb3 P1.out.lt)
      have k0 := P1.out.cell0
      have k1 := P1.out.cell1
      clear hb3 HM B2 P0b
      generalize w2.heap.size = g1 at *
      go_wp2_with fail
      refine (HF.out _).mono ?_
      rintro e w4 ⟨rfl, hb4⟩
      have B4 := hideIt (below_then B3.out hb4)
      have P3 := P0.out.keep hb4 P0.out.lt
      have q0 := P3.cell0
      have q1 := P3.cell1
      have q2 := P3.open0
      have q3 := P3.open1
      have PS := hideIt (P3.set (n, u))
      have BS := hideIt (below_setP B4.out (Nat.le_refl _) (.string (strOf n)) (.string (strOf u)))
      clear hb4 HF B3 B4 P0 P1 P3 k0 k1
      unfold pairV
      go_wp2_with fail
      (try simp only [Exit.inBlock, Exit.then])
      refine bodyPost_ret (results_P Tryd.results40 _ _ w.heap.size (n, u) _ rfl rfl (by exact PS.out)) rfl ?_
      exact ⟨by rw [EF2.out]; rfl, BS.out⟩
  · have hcut := cut61_no h61
    have EF : Hid (cookieL l = none) := hideIt (by unfold cookieL; rw [if_neg h61])
    unfold cutP at HC
    rw [hcut] at HC
    simp only [Option.isSome_none] at HC
    have HBA := hideIt (fun w => bare_any [] w (by simp))
    rw [show unqL [] = [] from rfl] at HBA
    obtain ⟨RR, hRR⟩ : ∃ R, cookieL l = R := ⟨_, rfl⟩
    rw [hRR] at EF ⊢
    clear hRR hcut hcl h61 hl hm
    go_enter Tryd.func40, Tryd.ntmps40
    go_wp2_with fail
    refine HC.out.mono ?_
    rintro e w1 ⟨rfl, hb1⟩
    have B1 := hideIt (below_then HBZ.out hb1)
    have P0 := hideIt (HPZ.out.keep hb1 HPZ.out.lt)
    have P3 := P0.out.keep (below_new w1 (.cells #[.string (strOf l), .string (strOf [])] 30)) P0.out.lt
    have B2 := hideIt (below_then B1.out (below_new w1 (.cells #[.string (strOf l), .string (strOf [])] 30)))
    have q0 := P3.cell0
    have q1 := P3.cell1
    have q2 := P3.open0
    have q3 := P3.open1
    have PS := hideIt (P3.set PairZ)
    have BS := hideIt (below_setP B2.out (Nat.le_refl _) (.string (strOf [])) (.string (strOf [])))
    clear hb1 HC HPZ HBZ P0 B1 B2 P3
    go_wp2_with fail
    refine (HBA.out _).mono ?_
    rintro e w2 ⟨rfl, rfl⟩
    go_wp2_with fail
    (try simp only [Exit.inBlock, Exit.then])
    refine bodyPost_ret (results_P Tryd.results40 _ _ w.heap.size PairZ _ rfl rfl (by exact PS.out)) rfl ?_
    exact ⟨by rw [EF.out]; rfl, BS.out⟩
theorem go_cookieOf : goFn Tryd.prog 40 = true := by kernel_rfl
end Go.Proofs.YtjfmlfakdijfjaaDoor
