/- The contract of the reference's Prove, of an ideal maker. -/
import Derived.Test.YtigocnaminkodaaDoorRefMaker
namespace Go.Proofs.YtigocnaminkodaaDoor
open Go.ChangeShapes Go.WideShapes Go.ChangeAt Go.RowKit
set_option linter.unusedVariables false
set_option linter.unusedSimpArgs false

section
variable {ops : Array Oper} {Q : Exit → Act → World → Prop} {G : Fact} {o : Oper} {a : Act} {w : World}
theorem ok_loadPiece (hg : Region.wanted o (yielded ops a.tmps) = true) (x : Operand) (ho : o.op = .load 22 x) (q : Addr) (p : Piece) (bs : List UInt8) (hb : p.bs = bs) (hx : a.eval x = .pointer (some q)) (hc : w.cell? q = some p.val) (hp : PieceOk w p) : StepOk Tryd.prog ops Q (Fact.piece bs) o a w := by
  subst hb
  refine ok_same hg p.val ?_ ⟨p.A, p.c, rfl, hp⟩
  obtain ⟨A, c, bs⟩ := p
  simp only [Piece.val] at hc ⊢
  simp only [execOp, ho, hx]
  go_simp
end
theorem fits_next (made : List (List UInt8)) (msg code : List UInt8) (k : Nat) (h : fitsL made msg code k = false) (hk : k < made.length) (hf : (decide (made[k] = msg) && decide (idealL k made[k] = code)) = false) : fitsL made msg code (k + 1) = false := by
  unfold fitsL at *
  rw [List.range_succ, List.any_append, h]
  have e : made.getD k [] = made[k] := by simp [List.getD, hk]
  simp only [List.any_cons, List.any_nil, Bool.or_false, Bool.false_or, e]
  exact hf
theorem fits_at (made : List (List UInt8)) (msg code : List UInt8) (k : Nat) (hk : k < made.length) (h1 : made[k] = msg) (h2 : idealL k made[k] = code) : fitsL made msg code made.length = true := by
  unfold fitsL
  rw [List.any_eq_true]
  have e : made.getD k [] = made[k] := by simp [List.getD, hk]
  exact ⟨k, List.mem_range.2 hk, by rw [e, decide_eq_true h1, decide_eq_true h2]; rfl⟩
set_option maxRecDepth 100000 in
set_option maxHeartbeats 2000000 in
theorem refprove_any (Am : Option Addr) (cm : Nat) (Ac : Option Addr) (cc : Nat) (made : List (List UInt8)) (cs : List Piece) (B : Nat) (A A' : Option Addr) (msg code : List UInt8) (n c n' c' : Nat) (w : World) (hT0 : TOk w B Am cm Ac cc made cs) (hp0 : PieceOk w ⟨A, c, msg⟩) (hn : msg.length = n) (hq0 : PieceOk w ⟨A', c', code⟩) (hn' : code.length = n') :
    Calls Tryd.prog 28 #[tV Am cm Ac cc made.length, .slice A n c, .slice A' n' c'] w fun e w' => e = .returned (.bool (fitsL made msg code made.length)) ∧ Below w.heap.size w w' := by
  generalize eX : w.alloc (.cells #[.slice none 0 0, .bool true, .slice Am made.length cm, .slice Ac made.length cc] 47) = X
  have bX : Grew w X := eX ▸ below_one (Below.refl _ _) _
  have kX : X.heap[w.heap.size]? = some (.cells #[.slice none 0 0, .bool true, .slice Am made.length cm, .slice Ac made.length cc] 47 (0, 0)) := eX ▸ heap_alloc_new w _
  have hlt := (Array.getElem?_eq_some_iff.1 kX).1
  have c1 : X.cell? ⟨w.heap.size, 1, none⟩ = some (.bool true) := by rw [cell_of_row X _ _ _ _ _ kX]; rfl
  have HX : Hid (CellAt X ⟨w.heap.size, 2, none⟩ (.slice Am made.length cm) ∧ CellAt X ⟨w.heap.size, 3, none⟩ (.slice Ac made.length cc)) := hideIt ⟨⟨by rw [cell_of_row X _ _ _ _ _ kX]; rfl, hlt⟩, ⟨by rw [cell_of_row X _ _ _ _ _ kX]; rfl, hlt⟩⟩
  have HT := hideIt (hT0.keep bX)
  have HP := hideIt (hp0.keep bX)
  have HQ := hideIt (hq0.keep bX)
  have HB := hideIt bX
  have EX := hideIt eX
  have hfew := hT0.few
  have hfew' : (made.length : Int) ≤ 1000 := by omega
  clear eX bX kX hlt hT0 hp0 hq0
  rw [← EX.out] at c1
  show Calls Tryd.prog 28 #[.agg #[.slice none 0 0, .bool true, .slice Am made.length cm, .slice Ac made.length cc], .slice A n c, .slice A' n' c'] w _
  go_enter Tryd.func28, Tryd.ntmps28
  go_wp2_with fail
  rw [EX.out]
  go_loopw [7] (fun i wr => ∃ j : Nat, j ≤ made.length ∧ i = .int .i64 j ∧ fitsL made msg code j = false ∧ Grew X wr) (fun i _ => made.length - (intOf i).toNat)
  case atStart => exact ⟨0, by omega, rfl, rfl, Grew.refl _⟩
  case round =>
    obtain ⟨j, hj, rfl, hfit, hgr⟩ := hrel
    have k2' := (HX.out.1.keep hgr).val
    by_cases hlt : j < made.length
    · have hlt' : (j : Int) < (made.length : Int) := by omega
      have hT := HT.out.keep hgr
      obtain ⟨qm, om, rfl, _, hqm, hcm⟩ := hT.strs (by simp; omega)
      obtain ⟨qc, oc, rfl, _, hqc, hcc⟩ := hT.rows (by simp; have := hT.len; omega)
      have hjl := hlt
      have hjc : j < cs.length := by have := hT.len; omega
      obtain ⟨mj, hmj⟩ : ∃ mj, made[j] = mj := ⟨_, rfl⟩
      obtain ⟨pj, hpj'⟩ : ∃ pj, cs[j] = pj := ⟨_, rfl⟩
      obtain ⟨cj, hcj'⟩ : ∃ cj, idealL j mj = cj := ⟨_, rfl⟩
      have hcj : pj.bs = cj := by rw [← hpj', ← hcj', ← hmj]; exact hT.code j hlt
      have hpj : PieceOk wr pj := hpj' ▸ hT.ok _ (List.getElem_mem hjc)
      have km : CellAt wr ⟨qm, om + j, none⟩ (.string (strOf mj)) := ⟨by rw [hcm j (by simp; omega)]; simp [hmj], hqm⟩
      have kc : CellAt wr ⟨qc, oc + j, none⟩ pj.val := ⟨by rw [hcc j (by simp; omega)]; simp [hpj'], hqc⟩
      have k2 := HX.out.1.keep hgr
      have k3 := HX.out.2.keep hgr
      have hp := HP.out.keep hgr
      have hq := HQ.out.keep hgr
      go_wp2_with fail
      by_cases hm1 : mj = msg
      · by_cases hm2 : cj = code
        · skip
          refine region_inv [Fact.is (.pointer (some ⟨w.heap.size, 2, none⟩)), Fact.is (.slice (some ⟨qm, om, none⟩) made.length cm), Fact.is (.int .i64 (j : Int)), Fact.is (.pointer (some ⟨qm, om + j, none⟩)), Fact.str (mj), Fact.is (.slice A n c), Fact.str (msg), Fact.is (.bool true), Fact.is (.bool true), Fact.is (.pointer (some ⟨w.heap.size, 3, none⟩)), Fact.is (.slice (some ⟨qc, oc, none⟩) made.length cc), Fact.is (.int .i64 (j : Int)), Fact.is (.pointer (some ⟨qc, oc + j, none⟩)), Fact.piece (cj), Fact.str (cj), Fact.is (.slice A' n' c'), Fact.str (code), Fact.is (.bool true), Fact.is (.bool true)] (by kernel_rfl) (by kernel_rfl) ⟨fun a w1 m => ?_, fun a w1 m => ?_, fun a w1 m => ?_, fun a w1 m => ?_, fun a w1 m => ?_, fun a w1 m => ?_, fun a w1 m => ?_, fun a w1 m => ?_, fun a w1 m => ?_, fun a w1 m => ?_, fun a w1 m => ?_, fun a w1 m => ?_, fun a w1 m => ?_, fun a w1 m => ?_, fun a w1 m => ?_, fun a w1 m => ?_, fun a w1 m => ?_, fun a w1 m => ?_, fun a w1 m => ?_, trivial⟩ ?_
          · exact ok_tfield (wanted_none rfl) (.tmp 3) 2 (by simp) rfl _ (m.old 3 rfl)
          · exact ok_loadStrs (wanted_none rfl) (.tmp 26) rfl _ _ (m.has 0 26 rfl rfl) (k2.keep m.grew).val
          · exact ok_move (wanted_none rfl) (.tmp 7) rfl (m.old 7 rfl)
          · exact ok_indexStrs (wanted_none rfl) (.tmp 27) (.tmp 28) rfl _ _ _ _ j (m.has 1 27 rfl rfl) (m.has 2 28 rfl rfl) hjl
          · exact ok_loadStr (wanted_none rfl) (.tmp 29) rfl _ _ (m.has 3 29 rfl rfl) (km.keep m.grew).val
          · exact ok_move (wanted_none rfl) (.tmp 1) rfl (m.old 1 rfl)
          · exact ok_str (wanted_none rfl) (.tmp 31) rfl _ (by rw [show a.eval (.tmp 31) = _ from m.has 5 31 rfl rfl, ← hn]; exact ⟨_, _, rfl, hp.keep m.grew⟩)
          · exact ok_streq (wanted_none rfl) (.tmp 30) (.tmp 32) _ rfl _ _ (m.has 4 30 rfl rfl) (m.has 6 32 rfl rfl) _ (decide_eq_true (by rw [hm1]))
          · exact ok_move (wanted_none rfl) (.tmp 33) rfl (m.has 7 33 rfl rfl)
          · exact ok_tfield (wanted_some 8 true rfl 34 rfl true (m.has 8 34 rfl rfl)) (.tmp 3) 3 (by simp) rfl _ (m.old 3 rfl)
          · exact ok_loadRows (wanted_some 8 true rfl 34 rfl true (m.has 8 34 rfl rfl)) (.tmp 35) rfl _ _ (m.has 9 35 rfl rfl) (k3.keep m.grew).val
          · exact ok_move (wanted_some 8 true rfl 34 rfl true (m.has 8 34 rfl rfl)) (.tmp 7) rfl (m.old 7 rfl)
          · exact ok_indexRows (wanted_some 8 true rfl 34 rfl true (m.has 8 34 rfl rfl)) (.tmp 36) (.tmp 37) rfl _ _ _ _ j (m.has 10 36 rfl rfl) (m.has 11 37 rfl rfl) hjl
          · exact ok_loadPiece (wanted_some 8 true rfl 34 rfl true (m.has 8 34 rfl rfl)) (.tmp 38) rfl _ pj cj hcj (m.has 12 38 rfl rfl) (kc.keep m.grew).val (hpj.keep m.grew)
          · exact ok_str (wanted_some 8 true rfl 34 rfl true (m.has 8 34 rfl rfl)) (.tmp 39) rfl _ (m.has 13 39 rfl rfl)
          · exact ok_move (wanted_some 8 true rfl 34 rfl true (m.has 8 34 rfl rfl)) (.tmp 2) rfl (m.old 2 rfl)
          · exact ok_str (wanted_some 8 true rfl 34 rfl true (m.has 8 34 rfl rfl)) (.tmp 41) rfl _ (by rw [show a.eval (.tmp 41) = _ from m.has 15 41 rfl rfl, ← hn']; exact ⟨_, _, rfl, hq.keep m.grew⟩)
          · exact ok_streq (wanted_some 8 true rfl 34 rfl true (m.has 8 34 rfl rfl)) (.tmp 40) (.tmp 42) _ rfl _ _ (m.has 14 40 rfl rfl) (m.has 16 42 rfl rfl) _ (decide_eq_true (by rw [hm2]))
          · exact ok_pickT (wanted_none rfl) (.tmp 34) _ _ rfl (m.has 8 34 rfl rfl) (m.has 17 43 rfl rfl)
          intro f w2 hg hf
          have h18 : f 18 = .bool true := hf 18 (by decide)
          have HG := hideIt (below_then hgr hg)
          clear hf hg
          simp only [putAll, Nat.zero_add, Nat.reduceAdd, Act.put, List.setIfInBounds_toArray, List.set_cons_succ, List.set_cons_zero]
          rw [h18]
          clear hgr k2 k3 km kc hpj hT hp hq
          go_wp2_with fail
          go_ret
          exact ⟨by rw [fits_at made msg code j hlt (hmj.trans hm1) (by rw [hmj, hcj', hm2])]; rfl, below_then HB.out HG.out⟩
        · skip
          refine region_inv [Fact.is (.pointer (some ⟨w.heap.size, 2, none⟩)), Fact.is (.slice (some ⟨qm, om, none⟩) made.length cm), Fact.is (.int .i64 (j : Int)), Fact.is (.pointer (some ⟨qm, om + j, none⟩)), Fact.str (mj), Fact.is (.slice A n c), Fact.str (msg), Fact.is (.bool true), Fact.is (.bool true), Fact.is (.pointer (some ⟨w.heap.size, 3, none⟩)), Fact.is (.slice (some ⟨qc, oc, none⟩) made.length cc), Fact.is (.int .i64 (j : Int)), Fact.is (.pointer (some ⟨qc, oc + j, none⟩)), Fact.piece (cj), Fact.str (cj), Fact.is (.slice A' n' c'), Fact.str (code), Fact.is (.bool false), Fact.is (.bool false)] (by kernel_rfl) (by kernel_rfl) ⟨fun a w1 m => ?_, fun a w1 m => ?_, fun a w1 m => ?_, fun a w1 m => ?_, fun a w1 m => ?_, fun a w1 m => ?_, fun a w1 m => ?_, fun a w1 m => ?_, fun a w1 m => ?_, fun a w1 m => ?_, fun a w1 m => ?_, fun a w1 m => ?_, fun a w1 m => ?_, fun a w1 m => ?_, fun a w1 m => ?_, fun a w1 m => ?_, fun a w1 m => ?_, fun a w1 m => ?_, fun a w1 m => ?_, trivial⟩ ?_
          · exact ok_tfield (wanted_none rfl) (.tmp 3) 2 (by simp) rfl _ (m.old 3 rfl)
          · exact ok_loadStrs (wanted_none rfl) (.tmp 26) rfl _ _ (m.has 0 26 rfl rfl) (k2.keep m.grew).val
          · exact ok_move (wanted_none rfl) (.tmp 7) rfl (m.old 7 rfl)
          · exact ok_indexStrs (wanted_none rfl) (.tmp 27) (.tmp 28) rfl _ _ _ _ j (m.has 1 27 rfl rfl) (m.has 2 28 rfl rfl) hjl
          · exact ok_loadStr (wanted_none rfl) (.tmp 29) rfl _ _ (m.has 3 29 rfl rfl) (km.keep m.grew).val
          · exact ok_move (wanted_none rfl) (.tmp 1) rfl (m.old 1 rfl)
          · exact ok_str (wanted_none rfl) (.tmp 31) rfl _ (by rw [show a.eval (.tmp 31) = _ from m.has 5 31 rfl rfl, ← hn]; exact ⟨_, _, rfl, hp.keep m.grew⟩)
          · exact ok_streq (wanted_none rfl) (.tmp 30) (.tmp 32) _ rfl _ _ (m.has 4 30 rfl rfl) (m.has 6 32 rfl rfl) _ (decide_eq_true (by rw [hm1]))
          · exact ok_move (wanted_none rfl) (.tmp 33) rfl (m.has 7 33 rfl rfl)
          · exact ok_tfield (wanted_some 8 true rfl 34 rfl true (m.has 8 34 rfl rfl)) (.tmp 3) 3 (by simp) rfl _ (m.old 3 rfl)
          · exact ok_loadRows (wanted_some 8 true rfl 34 rfl true (m.has 8 34 rfl rfl)) (.tmp 35) rfl _ _ (m.has 9 35 rfl rfl) (k3.keep m.grew).val
          · exact ok_move (wanted_some 8 true rfl 34 rfl true (m.has 8 34 rfl rfl)) (.tmp 7) rfl (m.old 7 rfl)
          · exact ok_indexRows (wanted_some 8 true rfl 34 rfl true (m.has 8 34 rfl rfl)) (.tmp 36) (.tmp 37) rfl _ _ _ _ j (m.has 10 36 rfl rfl) (m.has 11 37 rfl rfl) hjl
          · exact ok_loadPiece (wanted_some 8 true rfl 34 rfl true (m.has 8 34 rfl rfl)) (.tmp 38) rfl _ pj cj hcj (m.has 12 38 rfl rfl) (kc.keep m.grew).val (hpj.keep m.grew)
          · exact ok_str (wanted_some 8 true rfl 34 rfl true (m.has 8 34 rfl rfl)) (.tmp 39) rfl _ (m.has 13 39 rfl rfl)
          · exact ok_move (wanted_some 8 true rfl 34 rfl true (m.has 8 34 rfl rfl)) (.tmp 2) rfl (m.old 2 rfl)
          · exact ok_str (wanted_some 8 true rfl 34 rfl true (m.has 8 34 rfl rfl)) (.tmp 41) rfl _ (by rw [show a.eval (.tmp 41) = _ from m.has 15 41 rfl rfl, ← hn']; exact ⟨_, _, rfl, hq.keep m.grew⟩)
          · exact ok_streq (wanted_some 8 true rfl 34 rfl true (m.has 8 34 rfl rfl)) (.tmp 40) (.tmp 42) _ rfl _ _ (m.has 14 40 rfl rfl) (m.has 16 42 rfl rfl) _ (decide_eq_false (fun e => hm2 (strOf_inj e)))
          · exact ok_pickT (wanted_none rfl) (.tmp 34) _ _ rfl (m.has 8 34 rfl rfl) (m.has 17 43 rfl rfl)
          intro f w2 hg hf
          have h18 : f 18 = .bool false := hf 18 (by decide)
          have HG := hideIt (below_then hgr hg)
          clear hf hg
          simp only [putAll, Nat.zero_add, Nat.reduceAdd, Act.put, List.setIfInBounds_toArray, List.set_cons_succ, List.set_cons_zero]
          rw [h18]
          clear hgr k2 k3 km kc hpj hT hp hq
          go_wp2_with fail
          go_roundw
          case rel => exact ⟨j + 1, by omega, by go_num, fits_next made msg code j hfit hlt (by rw [hmj, hcj']; simp [hm2]), HG.out⟩
          case measure => simp [intOf]; omega
      · skip
        refine region_inv [Fact.is (.pointer (some ⟨w.heap.size, 2, none⟩)), Fact.is (.slice (some ⟨qm, om, none⟩) made.length cm), Fact.is (.int .i64 (j : Int)), Fact.is (.pointer (some ⟨qm, om + j, none⟩)), Fact.str (mj), Fact.is (.slice A n c), Fact.str (msg), Fact.is (.bool false), Fact.is (.bool false), Fact.is (undef), Fact.is (undef), Fact.is (undef), Fact.is (undef), Fact.is (undef), Fact.is (undef), Fact.is (undef), Fact.is (undef), Fact.is (undef), Fact.is (.bool false)] (by kernel_rfl) (by kernel_rfl) ⟨fun a w1 m => ?_, fun a w1 m => ?_, fun a w1 m => ?_, fun a w1 m => ?_, fun a w1 m => ?_, fun a w1 m => ?_, fun a w1 m => ?_, fun a w1 m => ?_, fun a w1 m => ?_, fun a w1 m => ?_, fun a w1 m => ?_, fun a w1 m => ?_, fun a w1 m => ?_, fun a w1 m => ?_, fun a w1 m => ?_, fun a w1 m => ?_, fun a w1 m => ?_, fun a w1 m => ?_, fun a w1 m => ?_, trivial⟩ ?_
        · exact ok_tfield (wanted_none rfl) (.tmp 3) 2 (by simp) rfl _ (m.old 3 rfl)
        · exact ok_loadStrs (wanted_none rfl) (.tmp 26) rfl _ _ (m.has 0 26 rfl rfl) (k2.keep m.grew).val
        · exact ok_move (wanted_none rfl) (.tmp 7) rfl (m.old 7 rfl)
        · exact ok_indexStrs (wanted_none rfl) (.tmp 27) (.tmp 28) rfl _ _ _ _ j (m.has 1 27 rfl rfl) (m.has 2 28 rfl rfl) hjl
        · exact ok_loadStr (wanted_none rfl) (.tmp 29) rfl _ _ (m.has 3 29 rfl rfl) (km.keep m.grew).val
        · exact ok_move (wanted_none rfl) (.tmp 1) rfl (m.old 1 rfl)
        · exact ok_str (wanted_none rfl) (.tmp 31) rfl _ (by rw [show a.eval (.tmp 31) = _ from m.has 5 31 rfl rfl, ← hn]; exact ⟨_, _, rfl, hp.keep m.grew⟩)
        · exact ok_streq (wanted_none rfl) (.tmp 30) (.tmp 32) _ rfl _ _ (m.has 4 30 rfl rfl) (m.has 6 32 rfl rfl) _ (decide_eq_false (fun e => hm1 (strOf_inj e)))
        · exact ok_move (wanted_none rfl) (.tmp 33) rfl (m.has 7 33 rfl rfl)
        · exact ok_not (wanted_some 8 true rfl 34 rfl false (m.has 8 34 rfl rfl)) rfl
        · exact ok_not (wanted_some 8 true rfl 34 rfl false (m.has 8 34 rfl rfl)) rfl
        · exact ok_not (wanted_some 8 true rfl 34 rfl false (m.has 8 34 rfl rfl)) rfl
        · exact ok_not (wanted_some 8 true rfl 34 rfl false (m.has 8 34 rfl rfl)) rfl
        · exact ok_not (wanted_some 8 true rfl 34 rfl false (m.has 8 34 rfl rfl)) rfl
        · exact ok_not (wanted_some 8 true rfl 34 rfl false (m.has 8 34 rfl rfl)) rfl
        · exact ok_not (wanted_some 8 true rfl 34 rfl false (m.has 8 34 rfl rfl)) rfl
        · exact ok_not (wanted_some 8 true rfl 34 rfl false (m.has 8 34 rfl rfl)) rfl
        · exact ok_not (wanted_some 8 true rfl 34 rfl false (m.has 8 34 rfl rfl)) rfl
        · exact ok_pickF (wanted_none rfl) (.tmp 34) _ _ rfl (m.has 8 34 rfl rfl) (rfl)
        intro f w2 hg hf
        have h18 : f 18 = .bool false := hf 18 (by decide)
        have HG := hideIt (below_then hgr hg)
        clear hf hg
        simp only [putAll, Nat.zero_add, Nat.reduceAdd, Act.put, List.setIfInBounds_toArray, List.set_cons_succ, List.set_cons_zero]
        rw [h18]
        clear hgr k2 k3 km kc hpj hT hp hq
        go_wp2_with fail
        go_roundw
        case rel => exact ⟨j + 1, by omega, by go_num, fits_next made msg code j hfit hlt (by rw [hmj]; simp [hm1]), HG.out⟩
        case measure => simp [intOf]; omega
    · obtain rfl : j = made.length := by omega
      have HG := hideIt (below_then HB.out hgr)
      clear hgr
      go_wp2_with fail
      go_ret
      exact ⟨by rw [hfit]; rfl, HG.out⟩
end Go.Proofs.YtigocnaminkodaaDoor
