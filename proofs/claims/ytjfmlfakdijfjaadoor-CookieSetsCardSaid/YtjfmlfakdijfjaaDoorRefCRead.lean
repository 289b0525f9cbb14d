/- Contract of the reference's Read (of a cookie that is set). -/
import Derived.Test.YtjfmlfakdijfjaaDoorRefPcs
import Derived.Test.YtjfmlfakdijfjaaDoorRefCSet
import Derived.Test.YtjfmlfakdijfjaaDoorRefDec
import Derived.Test.YtjfmlfakdijfjaaDoorCookRead
import Derived.Test.YtjfmlfakdijfjaaDoorCookFacts
namespace Go.Proofs.YtjfmlfakdijfjaaDoor
open Go.ChangeShapes Go.WideShapes Go.ChangeAt Go.RowKit
set_option linter.unusedVariables false
set_option linter.unusedSimpArgs false

theorem read_no {s : List UInt8} (h : candD s = none) : readL s = (readZ, false) := by unfold readL; rw [h]; rfl
theorem candD_six {s : List UInt8} (h : ¬ (pcsL s).length = 6) : candD s = none := by unfold candD; rw [if_neg (fun hh => h hh.1)]
set_option maxRecDepth 8000 in
set_option maxHeartbeats 4000000 in
theorem rcread_any (l : List UInt8) (w : World) (hl : l.length ≤ 90000) (hT : PowOk w) :
    Calls Tryd.prog 33 #[.string (strOf l)] w fun e w' => e = .returned (readV (readL l)) ∧ Below w.heap.size w w' := by
  have HPZ := hideIt (PCell.new w PairZ)
  have HBZ := hideIt (below_new w (.cells #[.string (strOf PairZ.1), .string (strOf PairZ.2)] 30))
  have HPC := hideIt (rpieces_any l (w.alloc (.cells #[.string (strOf PairZ.1), .string (strOf PairZ.2)] 30)) (by omega))
  obtain ⟨_, hp2⟩ := pcs_len (l.length + 1) l (Nat.lt_succ_self _)
  have HML := hideIt hp2
  have HN := hideIt (@read_no l)
  have H6 := hideIt (@candD_six l)
  have HC : Hid (candD l = if (pcsL l).length = 6 ∧ 8 ≤ ((pcsL l).getD 1 []).length ∧ (61 : UInt8) ∈ (pcsL l).getD 0 [] then some ((eqN ((pcsL l).getD 0 []), ((pcsL l).getD 0 []).drop ((eqN ((pcsL l).getD 0 [])).length + 1)), decV (((pcsL l).getD 1 []).drop 8) 999999999) else none) := hideIt rfl
  have HRC : Hid (readL l = readC (candD l) l) := hideIt rfl
  obtain ⟨RR, hRR⟩ : ∃ R, readL l = R := ⟨_, rfl⟩
  rw [hRR] at HN HRC ⊢
  have HP := hideIt hT
  have HL := hideIt hl
  clear hRR hT hp2 hl
  generalize candD l = cd at *
  generalize pcsL l = P at *
  go_enter Tryd.func33, Tryd.ntmps33
  go_wp2_with fail
  refine HPC.out.mono ?_
  rintro e w1 ⟨v, rfl, ho, hb⟩
  obtain ⟨A, c, rfl, hc1, hc2, hst⟩ := ho.open
  have B1 := hideIt (below_then HBZ.out hb)
  have P0 := hideIt (HPZ.out.keep hb HPZ.out.lt)
  have HST := hideIt hst
  clear ho hb hst HPC HBZ HPZ
  by_cases h6 : P.length = 6
  · have h6i : (P.length : Int) = 6 := by omega
    rw [h6] at hc1 ⊢
    obtain ⟨p0, hp0⟩ : ∃ p, P[0]? = some p := ⟨_, List.getElem?_eq_getElem (by omega)⟩
    obtain ⟨p1, hp1⟩ : ∃ p, P[1]? = some p := ⟨_, List.getElem?_eq_getElem (by omega)⟩
    obtain ⟨g, rfl, hg, hcs⟩ := HST.out (by omega)
    have k0 := hcs 0 p0 hp0
    have k1 := hcs 1 p1 hp1
    have hl0 := HML.out p0 (List.mem_of_getElem? hp0)
    have hl1 := HML.out p1 (List.mem_of_getElem? hp1)
    have hle := HL.out
    rw [show P.getD 0 [] = p0 by simp [List.getD, hp0], show P.getD 1 [] = p1 by simp [List.getD, hp1]] at HC
    have hz0 := strOf_size p0
    have hz1 := strOf_size p1
    have HGL := hideIt hg
    have HK0 : Hid (w1.cell? ⟨g, 0 + 0, none⟩ = some (.string (strOf p0))) := hideIt k0
    have HK1 : Hid (w1.cell? ⟨g, 1, none⟩ = some (.string (strOf p1))) := hideIt k1
    have k0' : w1.cell? ⟨g, 0 + 0, none⟩ = some (.string (strOf p0)) := k0
    have k1' : w1.cell? ⟨g, 0 + 1, none⟩ = some (.string (strOf p1)) := k1
    clear hcs hp0 hp1 HST HML H6 hg
    by_cases h8 : p1.length < 8
    · have h8i : (p1.length : Int) < 8 := by omega
      have E := hideIt (HN.out (by rw [HC.out, if_neg (fun h => by omega)]))
      have q0 := P0.out.cell0
      have q1 := P0.out.cell1
      have q2 := P0.out.open0
      have q3 := P0.out.open1
      have PS := hideIt (P0.out.set PairZ)
      have BS := hideIt (below_setP B1.out (Nat.le_refl _) (.string (strOf [])) (.string (strOf [])))
      clear HC HN HRC h8
      go_wp2_with fail
      (try simp only [Exit.inBlock, Exit.then])
      refine bodyPost_ret (results_P3 Tryd.results33 _ _ w.heap.size PairZ _ _ rfl rfl rfl (by exact PS.out)) rfl ?_
      exact ⟨by rw [E.out]; rfl, BS.out⟩
    · have h8i : ¬ (p1.length : Int) < 8 := by omega
      have H8 : Hid (8 ≤ p1.length) := hideIt (by omega)
      go_wp2_with fail
      go_loopw [6] (fun i wr => ∃ k : Nat, k ≤ p0.length ∧ i = .int .i64 (k : Int) ∧ (∀ j (hj : j < p0.length), j < k → p0[j] ≠ 61) ∧ wr = w1) (fun i wr => p0.length - (intOf i).toNat)
      case atStart => exact ⟨0, Nat.zero_le _, rfl, fun j _ h => by omega, rfl⟩
      case round =>
        obtain ⟨k, hk, rfl, ha, rfl⟩ := hrel
        have HA := hideIt ha
        have HKL := hideIt hk
        clear ha
        have hwk : IntKind.i64.wrap ((k : Int) + 1) = (k : Int) + 1 := IntWalk.i64_in _ (by omega)
        by_cases hkl : k < p0.length
        · have hki : (k : Int) < (p0.length : Int) := by omega
          have hkne : ((k : Int) == (p0.length : Int)) = false := by rw [beq_eq_false_iff_ne]; omega
          have hix : ∀ w, (Instr.index 9 (.string (strOf p0)) (.int .i64 (k : Int))).run Tryd.prog w = .ok (.int .u8 ((p0[k]).toNat : Int)) w := fun w => run_index_str w p0 .i64 k hkl
          by_cases h61 : p0[k] = 61
          · have hq : (((p0[k]).toNat : Int) == 61) = true := by rw [h61]; rfl
            have hq' : ((p0[k]).toNat : Int) = 61 := by rw [h61]; rfl
            have hen : eqN p0 = p0.take k := eqN_at p0 k hkl h61 HA.out
            have hnl : (p0.take k).length = k := by rw [List.length_take]; omega
            have hm61 : (61 : UInt8) ∈ p0 := by rw [← h61]; exact List.getElem_mem hkl
            rw [if_pos ⟨h6, H8.out, hm61⟩, hen, hnl] at HC
            have HKB : Hid (k + 1 < 1000000000) := hideIt (by omega)
            have HKL1 : Hid (k + 1 ≤ p0.length) := hideIt hkl
            have hlo8 : ∀ w, (Instr.slice 9 (.string (strOf p1)) (some (.int .i64 8)) none none).run Tryd.prog w = .ok (.string (strOf (p1.drop 8))) w := fun w => run_strlo p1 8 H8.out w
            have hdl8 : (strOf (p1.drop 8)).data.toList = p1.drop 8 := by simp [strOf]
            have CD := hideIt (fun u => refdec_any (strOf (p1.drop 8)) 999999999 u (by rw [strOf_size, List.length_drop]; unfold maxLen; omega) (by decide))
            rw [hdl8] at CD
            have hL1 : (p0.take k).length ≤ 400000 := by omega
            have hL2 : (p0.drop (k + 1)).length ≤ 400000 := by rw [List.length_drop]; omega
            have hER := HRC.out
            rw [HC.out] at hER
            obtain ⟨dv, hdv⟩ : ∃ d, decV (p1.drop 8) 999999999 = d := ⟨_, rfl⟩
            obtain ⟨db, hdb⟩ : ∃ d, decB (p1.drop 8) 999999999 = d := ⟨_, rfl⟩
            rw [hdv, hdb] at CD
            rw [hdv] at hER
            have CS := hideIt (fun u (h : PowOk u) => rcset_any (p0.take k, p0.drop (k + 1)) dv u hL1 hL2 h)
            unfold readC at hER
            simp only at hER
            obtain ⟨R, hR⟩ : ∃ R, setC (p0.take k, p0.drop (k + 1)) dv = R := ⟨_, rfl⟩
            have hR2 : R.2 = 0 ∨ R.2 = 1 := by rw [← hR]; unfold setC; split <;> simp
            rw [hR] at CS hER
            obtain ⟨wt, er⟩ := R
            simp only at hR2 hER CS
            have hcmp : ((strOf wt).toList == (strOf l).toList) = decide (wt = l) := by
              rw [strOf_toList, strOf_toList]
              by_cases h : wt = l <;> simp [h]
            unfold pairV at CS
            have ER := hideIt hER
            clear hER hR hen hm61 h61 HC HN HRC HA hdv hdb hL1 hL2 hdl8 h8 h8i
            generalize ((p0[k]).toNat : Int) = ci at *
            go_upto_region 9 with fail
            refine region_tail 13 [Fact.is (.slice (some ⟨g, 0, none⟩) 6 c), Fact.is (.pointer (some ⟨g, 0 + 0, none⟩)), Fact.str (p0), Fact.is (.int .i64 ((k : Nat) : Int)), Fact.str (p0.take k), Fact.is (.slice (some ⟨g, 0, none⟩) 6 c), Fact.is (.pointer (some ⟨g, 0 + 0, none⟩)), Fact.str (p0), Fact.is (.int .i64 ((k : Nat) : Int)), Fact.is (.int .i64 ((k + 1 : Nat) : Int)), Fact.str (p0.drop (k + 1)), Fact.is (.agg #[.string (strOf (p0.take k)), .string (strOf (p0.drop (k + 1)))]), Fact.freshP wr.heap.size] (by kernel_rfl) (by kernel_rfl) (by kernel_rfl) ⟨fun a wq m => ?_, fun a wq m => ?_, fun a wq m => ?_, fun a wq m => ?_, fun a wq m => ?_, fun a wq m => ?_, fun a wq m => ?_, fun a wq m => ?_, fun a wq m => ?_, fun a wq m => ?_, fun a wq m => ?_, fun a wq m => ?_, fun a wq m => ?_, trivial⟩ ?_
            · exact ok_move (wanted_none rfl) (.tmp 5) rfl (m.old 5 rfl)
            · exact ok_indexSs (wanted_none rfl) (.tmp 48) (.const (.int .i64 0)) rfl g 0 6 c 0 (m.has 0 48 rfl rfl) rfl (by decide)
            · exact ok_loadS (wanted_none rfl) (.tmp 49) rfl ⟨g, 0 + 0, none⟩ p0 (m.has 1 49 rfl rfl) ((m.grew.cell (p := ⟨g, 0 + 0, none⟩) HGL.out).trans HK0.out)
            · exact ok_move (wanted_none rfl) (.tmp 6) rfl (m.old 6 rfl)
            · exact ok_strHi (wanted_none rfl) (.tmp 50) (.tmp 51) rfl p0 k (m.has 2 50 rfl rfl) (m.has 3 51 rfl rfl) HKL.out
            · exact ok_move (wanted_none rfl) (.tmp 5) rfl (m.old 5 rfl)
            · exact ok_indexSs (wanted_none rfl) (.tmp 53) (.const (.int .i64 0)) rfl g 0 6 c 0 (m.has 5 53 rfl rfl) rfl (by decide)
            · exact ok_loadS (wanted_none rfl) (.tmp 54) rfl ⟨g, 0 + 0, none⟩ p0 (m.has 6 54 rfl rfl) ((m.grew.cell (p := ⟨g, 0 + 0, none⟩) HGL.out).trans HK0.out)
            · exact ok_move (wanted_none rfl) (.tmp 6) rfl (m.old 6 rfl)
            · exact ok_bin (wanted_none rfl) _ _ _ (.tmp 56) _ rfl _ _ _ (m.has 8 56 rfl rfl) (rfl) rfl (run_add64 k 1 HKB.out)
            · exact ok_strLo (wanted_none rfl) (.tmp 55) (.tmp 57) rfl p0 (k + 1) (m.has 7 55 rfl rfl) (m.has 9 57 rfl rfl) HKL1.out
            · exact ok_structP (wanted_none rfl) (.tmp 52) (.tmp 58) rfl _ _ (m.has 4 52 rfl rfl) (m.has 10 58 rfl rfl)
            · exact ok_freshP (wanted_none rfl) rfl wr.heap.size (show wr.heap.size ≤ wq.heap.size from m.grew.size)
            intro f w9 hg hf
            have e11 : f 11 = .agg #[.string (strOf (p0.take k)), .string (strOf (p0.drop (k + 1)))] := hf 11 (by decide)
            obtain ⟨gq, e12, hgq, hQ⟩ := (hf 12 (by decide) : (Fact.freshP wr.heap.size).p (f 12) w9)
            have B9 := hideIt (below_then B1.out hg)
            have GR := hideIt hg
            clear hf
            simp only [List.take, List.drop, putAll, Act.put, List.setIfInBounds_toArray, List.set_cons_succ, List.set_cons_zero]
            rw [e11, e12]
            clear e11 e12
            have P9 := P0.out.keep GR.out P0.out.lt
            have hlt0 := P0.out.lt
            have q0 := hQ.cell0
            have q1 := hQ.cell1
            have q2 := hQ.open0
            have q3 := hQ.open1
            have N9 := hideIt (hQ.set (p0.take k, p0.drop (k + 1)))
            obtain ⟨X9, hX9⟩ : ∃ X, (w9.setCell ⟨gq, 0, none⟩ (.string (strOf (p0.take k)))).setCell ⟨gq, 1, none⟩ (.string (strOf (p0.drop (k + 1)))) = X := ⟨_, rfl⟩
            have BX : Hid (Below w.heap.size w X9) := hideIt (by rw [← hX9]; exact below_setP B9.out (by omega) _ _)
            have PX : Hid (PCell X9 w.heap.size PairZ) := hideIt (by
              rw [← hX9]
              exact ((heap_setCell_other _ _ _ _ (by show w.heap.size ≠ gq; omega)).trans (heap_setCell_other _ _ _ _ (by show w.heap.size ≠ gq; omega))).trans P9)
            have K1 : X9.cell? ⟨g, 0 + 1, none⟩ = some (.string (strOf p1)) := by
              have hh : X9.heap[g]? = wr.heap[g]? := by
                rw [← hX9]
                exact ((heap_setCell_other _ _ _ _ (by show g ≠ gq; have := HGL.out; omega)).trans (heap_setCell_other _ _ _ _ (by show g ≠ gq; have := HGL.out; omega))).trans (GR.out.block g HGL.out)
              rw [World.cell?_of_block (w := wr) hh]; exact HK1.out
            have K1' : X9.cell? ⟨g, 1, none⟩ = some (.string (strOf p1)) := K1
            subst hX9
            clear P9 hQ B9 GR P0
            go_wp2_with fail
            refine (CD.out _).mono ?_
            rintro e w2 ⟨rfl, rfl⟩
            have z0 := N9.out.cell0
            have z1 := N9.out.cell1
            clear q0 q1 q2 q3
            go_wp2_with fail
            refine (CS.out _ (HP.out.keep BX.out)).mono ?_
            rintro e w3 ⟨rfl, hb3⟩
            have BY := hideIt (below_then BX.out hb3)
            have PY := PX.out.keep hb3 PX.out.lt
            have NY := N9.out.keep hb3 N9.out.lt
            clear hb3 BX PX N9 z0 z1 CS CD K1 K1'
            have q0 := PY.cell0
            have q1 := PY.cell1
            have q2 := PY.open0
            have q3 := PY.open1
            have z0 := NY.cell0
            have z1 := NY.cell1
            by_cases hok : er = 0 ∧ wt = l
            · have E := hideIt ER.out
              rw [if_pos hok] at E
              obtain ⟨rfl, hwl⟩ := hok
              rw [decide_eq_true hwl] at hcmp
              have PS := hideIt (PY.set (p0.take k, p0.drop (k + 1)))
              have BS := hideIt (below_setP BY.out (Nat.le_refl _) (.string (strOf (p0.take k))) (.string (strOf (p0.drop (k + 1)))))
              clear hwl hR2 ER PY NY BY
              generalize strOf wt = ws at *
              generalize strOf l = ls at *
              go_wp2_with fail
              (try simp only [Exit.inBlock, Exit.then])
              refine bodyPost_ret (results_P3 Tryd.results33 _ _ w.heap.size (p0.take k, p0.drop (k + 1)) _ _ rfl rfl rfl (by exact PS.out)) rfl ?_
              exact ⟨by rw [E.out]; rfl, BS.out⟩
            · have E := hideIt ER.out
              rw [if_neg hok] at E
              have PS := hideIt (PY.set PairZ)
              have BS := hideIt (below_setP BY.out (Nat.le_refl _) (.string (strOf [])) (.string (strOf [])))
              rcases hR2 with rfl | rfl
              · have hwl : ¬ wt = l := fun h => hok ⟨rfl, h⟩
                rw [decide_eq_false hwl] at hcmp
                clear hok hwl ER PY NY BY
                generalize strOf wt = ws at *
                generalize strOf l = ls at *
                go_wp2_with fail
                (try simp only [Exit.inBlock, Exit.then])
                refine bodyPost_ret (results_P3 Tryd.results33 _ _ w.heap.size PairZ _ _ rfl rfl rfl (by exact PS.out)) rfl ?_
                exact ⟨by rw [E.out]; rfl, BS.out⟩
              · clear hok hcmp ER PY NY BY
                generalize strOf wt = ws at *
                generalize strOf l = ls at *
                go_wp2_with fail
                (try simp only [Exit.inBlock, Exit.then])
                refine bodyPost_ret (results_P3 Tryd.results33 _ _ w.heap.size PairZ _ _ rfl rfl rfl (by exact PS.out)) rfl ?_
                exact ⟨by rw [E.out]; rfl, BS.out⟩
          · have hq : (((p0[k]).toNat : Int) == 61) = false := by rw [beq_eq_false_iff_ne]; exact fun h => h61 (UInt8.toNat_inj.1 (by have : (61 : UInt8).toNat = 61 := rfl; omega))
            have hq' : ¬ ((p0[k]).toNat : Int) = 61 := by rw [beq_eq_false_iff_ne] at hq; exact hq
            have N : Hid (∀ j (hj : j < p0.length), j < k + 1 → p0[j] ≠ 61) := hideIt fun j hj hjk => by
              by_cases hjk2 : j < k
              · exact HA.out j hj hjk2
              · obtain rfl : j = k := by omega
                exact h61
            clear h61 HA
            generalize ((p0[k]).toNat : Int) = ci at *
            go_wp2_with fail
            go_roundw
            case rel => exact ⟨k + 1, hkl, by go_num, N.out, by trivial⟩
            case measure => simp [intOf]; omega
        · obtain rfl : k = p0.length := by omega
          have hn61 : (61 : UInt8) ∉ p0 := fun hm => by
            obtain ⟨j, hj, e⟩ := List.getElem_of_mem hm
            exact HA.out j hj hj e
          have E := hideIt (HN.out (by rw [HC.out, if_neg (fun h => hn61 h.2.2)]))
          have q0 := P0.out.cell0
          have q1 := P0.out.cell1
          have q2 := P0.out.open0
          have q3 := P0.out.open1
          have PS := hideIt (P0.out.set PairZ)
          have BS := hideIt (below_setP B1.out (Nat.le_refl _) (.string (strOf [])) (.string (strOf [])))
          clear hn61 HA HC HN HRC
          go_wp2_with fail
          (try simp only [Exit.inBlock, Exit.then])
          refine bodyPost_ret (results_P3 Tryd.results33 _ _ w.heap.size PairZ _ _ rfl rfl rfl (by exact PS.out)) rfl ?_
          exact ⟨by rw [E.out]; rfl, BS.out⟩
  · have h6i : ¬ (P.length : Int) = 6 := by omega
    have E := hideIt (HN.out (H6.out h6))
    have q0 := P0.out.cell0
    have q1 := P0.out.cell1
    have q2 := P0.out.open0
    have q3 := P0.out.open1
    have PS := hideIt (P0.out.set PairZ)
    have BS := hideIt (below_setP B1.out (Nat.le_refl _) (.string (strOf [])) (.string (strOf [])))
    clear h6 HC HN HRC
    go_wp2_with fail
    (try simp only [Exit.inBlock, Exit.then])
    refine bodyPost_ret (results_P3 Tryd.results33 _ _ w.heap.size PairZ _ _ rfl rfl rfl (by exact PS.out)) rfl ?_
    exact ⟨by rw [E.out]; rfl, BS.out⟩
theorem go_rcread : goFn Tryd.prog 33 = true := by kernel_rfl
end Go.Proofs.YtjfmlfakdijfjaaDoor
