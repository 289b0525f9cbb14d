/- The contract of the reference's Make: a message that was made. -/
import Derived.Test.YtigocnaminkodaaDoorRefProve
namespace Go.Proofs.YtigocnaminkodaaDoor
open Go.ChangeShapes Go.WideShapes Go.ChangeAt Go.RowKit
set_option linter.unusedVariables false
set_option linter.unusedSimpArgs false


theorem pos_at {m : List UInt8} {l : List (List UInt8)} {i k : Nat} (h : posL m l i = some k) : i ≤ k ∧ (∃ h : k - i < l.length, l[k - i] = m) ∧ ∀ j (hj : j < l.length), j < k - i → l[j] ≠ m := by
  induction l generalizing i with
  | nil => simp [posL] at h
  | cons x xs ih =>
    unfold posL at h
    split at h
    · cases h
      next e => exact ⟨Nat.le_refl _, ⟨by simp, by simp [e]⟩, fun j hj hlt => by omega⟩
    · next e =>
      obtain ⟨h1, ⟨h2, h3⟩, h4⟩ := ih h
      have e1 : k - i = (k - (i + 1)) + 1 := by omega
      refine ⟨by omega, ⟨by simp; omega, by simp only [e1, List.getElem_cons_succ]; exact h3⟩, fun j hj hlt => ?_⟩
      cases j with
      | zero => simp; exact fun hh => e hh.symm
      | succ j => simp only [List.getElem_cons_succ]; exact h4 j (by simpa using hj) (by omega)
theorem pos_none {m : List UInt8} {l : List (List UInt8)} {i : Nat} (h : posL m l i = none) : ∀ j (hj : j < l.length), l[j] ≠ m := by
  induction l generalizing i with
  | nil => intro j hj; simp at hj
  | cons x xs ih =>
    unfold posL at h
    split at h
    · cases h
    · next e =>
      intro j hj
      cases j with
      | zero => simp; exact fun hh => e hh.symm
      | succ j => simp only [List.getElem_cons_succ]; exact ih h j (by simpa using hj)
theorem info_T : (Tryd.prog.info? 47).map (·.size) = some 4 := by kernel_rfl
theorem step_loadT {o : Oper} {a : Act} {w : World} {K : Act → World → Prop} {Q : Exit → Act → World → Prop} {E c' : Prop} [Decidable c'] (hgd : c') (x : Operand) (ho : o.op = .load 47 x)
    (g : Nat) (x0 x1 x2 x3 : Value) (hx : a.eval x = .pointer (some ⟨g, 0, none⟩)) (hA : w.heap[g]? = some (.cells #[x0, x1, x2, x3] 47 (0, 0)))
    (h : K (a.put o.dst (.agg #[x0, x1, x2, x3])) w) : if c' then Oper.wp Tryd.prog o a w K Q else E := by
  rw [if_pos hgd]
  exact wp_load_row _ x ho g hx 47 _ (0, 0) _ hA Tryd.underlying47 rfl info_T h
theorem step_storeT {o : Oper} {a : Act} {w X : World} {K : Act → World → Prop} {Q : Exit → Act → World → Prop} {E c' : Prop} [Decidable c'] (hgd : c') (x y : Operand) (ho : o.op = .store 47 x y)
    (g : Nat) (x0 x1 x2 x3 y0 y1 y2 y3 : Value) (hx : a.eval x = .pointer (some ⟨g, 0, none⟩)) (hy : a.eval y = .agg #[y0, y1, y2, y3]) (hA : w.heap[g]? = some (.cells #[x0, x1, x2, x3] 47 (0, 0))) (h1 : #[y0, y1, y2, y3].all (·.oneCell') = true) (hX : w.setRow g #[y0, y1, y2, y3] = X)
    (h : K (a.put o.dst undef) X) : if c' then Oper.wp Tryd.prog o a w K Q else E := by
  rw [if_pos hgd]
  subst hX
  exact wp_store_row _ x y ho g _ hx hy 47 _ hA info_T rfl h1 h
theorem row_setT {w : World} {g : Nat} {t : TypeId} {x0 x1 x2 x3 : Value} (h : w.heap[g]? = some (.cells #[x0, x1, x2, x3] t (0, 0))) (y0 y1 y2 y3 : Value) :
    ((((w.setCell ⟨g, 0, none⟩ y0).setCell ⟨g, 1, none⟩ y1).setCell ⟨g, 2, none⟩ y2).setCell ⟨g, 3, none⟩ y3).heap[g]? = some (.cells #[y0, y1, y2, y3] t (0, 0)) := by
  have h0 := heap_setCell_same w g 0 _ t y0 h
  have h1 := heap_setCell_same _ g 1 _ t y1 h0
  have h2 := heap_setCell_same _ g 2 _ t y2 h1
  have h3 := heap_setCell_same _ g 3 _ t y3 h2
  rw [h3]; simp
theorem below_setT {w w' : World} {B g : Nat} (h : Below B w w') (hg : B ≤ g) (y0 y1 y2 y3 : Value) : Below B w ((((w'.setCell ⟨g, 0, none⟩ y0).setCell ⟨g, 1, none⟩ y1).setCell ⟨g, 2, none⟩ y2).setCell ⟨g, 3, none⟩ y3) :=
  (((h.setCell (by exact hg) y0).setCell (by exact hg) y1).setCell (by exact hg) y2).setCell (by exact hg) y3
theorem results_T {fn : Func} {p u : Tmp} (h : fn.results = #[.cell p 47, .tmp u]) (tmps : Array Value) (w : World) (g : Nat) (x0 x1 x2 x3 v : Value) (hp : tmps.getD p undef = .pointer (some ⟨g, 0, none⟩)) (hu : tmps.getD u undef = v) (hA : w.heap[g]? = some (.cells #[x0, x1, x2, x3] 47 (0, 0))) :
    (results fn tmps).run Tryd.prog w = .ok (.tuple #[.agg #[x0, x1, x2, x3], v]) w := by
  have hr := run_loadVar_row (P := Tryd.prog) w g 47 47 _ (0, 0) _ hA Tryd.underlying47 rfl info_T
  rw [results_cell_tmp h, hp, hu]
  simp [asAddr, hr, Result.andThen]
theorem size_setRow (w : World) (g : Nat) (cs : Array Value) : (w.setRow g cs).heap.size = w.heap.size := by simp
theorem cell_setRow_other (w : World) (g b o : Nat) (cs : Array Value) (h : b ≠ g) : (w.setRow g cs).cell? ⟨b, o, none⟩ = w.cell? ⟨b, o, none⟩ := by
  simp only [World.cell?, setRow_other w g b cs h]
set_option maxRecDepth 100000 in
set_option maxHeartbeats 2000000 in
theorem refmake_old (Am : Option Addr) (cm : Nat) (Ac : Option Addr) (cc : Nat) (made : List (List UInt8)) (cs : List Piece) (B : Nat) (A : Option Addr) (msg : List UInt8) (n c k : Nat) (w : World) (hT0 : TOk w B Am cm Ac cc made cs) (hfew : made.length ≤ 900) (hp0 : PieceOk w ⟨A, c, msg⟩) (hn : msg.length = n) (hk : posL msg made 0 = some k) :
    Calls Tryd.prog 27 #[tV Am cm Ac cc made.length, .slice A n c] w fun e w' => ∃ p : Piece, e = .returned (.tuple #[tV Am cm Ac cc made.length, p.val]) ∧ p.bs = idealL k msg ∧ p ∈ cs ∧ Below w.heap.size w w' := by
  obtain ⟨_, ⟨hkl, hkm⟩, hkn⟩ := pos_at hk
  simp only [Nat.sub_zero] at hkl hkm hkn
  generalize eX1 : w.alloc (.cells #[.slice none 0 0, .bool true, .slice Am made.length cm, .slice Ac made.length cc] 47) = X1
  have bX1 : Grew w X1 := eX1 ▸ below_one (Below.refl _ _) _
  have s1 : X1.heap.size = w.heap.size + 1 := by rw [← eX1, alloc_size]
  have kX1 : X1.heap[w.heap.size]? = some (.cells #[.slice none 0 0, .bool true, .slice Am made.length cm, .slice Ac made.length cc] 47 (0, 0)) := eX1 ▸ heap_alloc_new w _
  generalize eX : X1.alloc (.cells #[.slice none 0 0, .bool false, .slice none 0 0, .slice none 0 0] 47) = X
  have bX : Grew w X := below_then bX1 (eX ▸ below_one (Below.refl _ _) _)
  have kX : X.heap[w.heap.size]? = some (.cells #[.slice none 0 0, .bool true, .slice Am made.length cm, .slice Ac made.length cc] 47 (0, 0)) := by rw [← eX, Below.heap_alloc X1 _ _ (by omega)]; exact kX1
  have kR : X.heap[w.heap.size + 1]? = some (.cells #[.slice none 0 0, .bool false, .slice none 0 0, .slice none 0 0] 47 (0, 0)) := by rw [← eX, ← s1]; exact heap_alloc_new X1 _
  have hlt := (Array.getElem?_eq_some_iff.1 kX).1
  have c1 : X.cell? ⟨w.heap.size, 1, none⟩ = some (.bool true) := by rw [cell_of_row X _ _ _ _ _ kX]; rfl
  have HX : Hid (CellAt X ⟨w.heap.size, 2, none⟩ (.slice Am made.length cm) ∧ CellAt X ⟨w.heap.size, 3, none⟩ (.slice Ac made.length cc)) := hideIt ⟨⟨by rw [cell_of_row X _ _ _ _ _ kX]; rfl, hlt⟩, ⟨by rw [cell_of_row X _ _ _ _ _ kX]; rfl, hlt⟩⟩
  have HT0 := hideIt hT0
  have HT := hideIt (hT0.keep bX)
  have HP := hideIt (hp0.keep bX)
  have HB := hideIt bX
  have EX1 := hideIt eX1
  have EX := hideIt eX
  have KX := hideIt kX
  have KR := hideIt kR
  have S1 := hideIt s1
  have hfew' : (made.length : Int) ≤ 900 := by omega
  clear eX eX1 bX bX1 kX kX1 kR hlt hT0 hp0 s1
  rw [← EX.out, ← EX1.out] at c1
  show Calls Tryd.prog 27 #[.agg #[.slice none 0 0, .bool true, .slice Am made.length cm, .slice Ac made.length cc], .slice A n c] w _
  go_enter Tryd.func27, Tryd.ntmps27
  go_wp2_with fail
  rw [EX1.out, EX.out]
  go_loopw [6] (fun i wr => ∃ j : Nat, j ≤ k ∧ i = .int .i64 j ∧ Grew X wr) (fun i _ => made.length - (intOf i).toNat)
  case atStart => exact ⟨0, by omega, rfl, Grew.refl _⟩
  case round =>
    obtain ⟨j, hj, rfl, hgr⟩ := hrel
    have k2' := (HX.out.1.keep hgr).val
    have hlt : j < made.length := by omega
    have hlt' : (j : Int) < (made.length : Int) := by omega
    by_cases hjk : j = k
    · skip
      have hT := HT.out.keep hgr
      obtain ⟨qm, om, rfl, _, hqm, hcm⟩ := hT.strs (by simp; omega)
      obtain ⟨mj, hmj⟩ : ∃ mj, made[j] = mj := ⟨_, rfl⟩
      have km : CellAt wr ⟨qm, om + j, none⟩ (.string (strOf mj)) := ⟨by rw [hcm j (by simp; omega)]; simp [hmj], hqm⟩
      have k2 := HX.out.1.keep hgr
      have hp := HP.out.keep hgr
      go_wp2_with fail
      have hm1 : mj = msg := by subst hjk; exact hmj.symm.trans hkm
      refine region_inv [Fact.is (.pointer (some ⟨w.heap.size, 2, none⟩)), Fact.is (.slice (some ⟨qm, om, none⟩) made.length cm), Fact.is (.int .i64 (j : Int)), Fact.is (.pointer (some ⟨qm, om + j, none⟩)), Fact.str (mj), Fact.is (.slice A n c), Fact.str (msg), Fact.is (.bool true)] (by kernel_rfl) (by kernel_rfl) ⟨fun a w1 m => ?_, fun a w1 m => ?_, fun a w1 m => ?_, fun a w1 m => ?_, fun a w1 m => ?_, fun a w1 m => ?_, fun a w1 m => ?_, fun a w1 m => ?_, trivial⟩ ?_
      · exact ok_tfield (wanted_none rfl) (.tmp 2) 2 (by simp) rfl _ (m.old 2 rfl)
      · exact ok_loadStrs (wanted_none rfl) (.tmp 27) rfl _ _ (m.has 0 27 rfl rfl) (k2.keep m.grew).val
      · exact ok_move (wanted_none rfl) (.tmp 6) rfl (m.old 6 rfl)
      · exact ok_indexStrs (wanted_none rfl) (.tmp 28) (.tmp 29) rfl _ _ _ _ j (m.has 1 28 rfl rfl) (m.has 2 29 rfl rfl) hlt
      · exact ok_loadStr (wanted_none rfl) (.tmp 30) rfl _ _ (m.has 3 30 rfl rfl) (km.keep m.grew).val
      · exact ok_move (wanted_none rfl) (.tmp 1) rfl (m.old 1 rfl)
      · exact ok_str (wanted_none rfl) (.tmp 32) rfl _ (by rw [show a.eval (.tmp 32) = _ from m.has 5 32 rfl rfl, ← hn]; exact ⟨_, _, rfl, hp.keep m.grew⟩)
      · exact ok_streq (wanted_none rfl) (.tmp 31) (.tmp 33) _ rfl _ _ (m.has 4 31 rfl rfl) (m.has 6 33 rfl rfl) _ (decide_eq_true (by rw [hm1]))
      intro f w2 hg hf
      have h7 : f 7 = .bool true := hf 7 (by decide)
      have HG := hideIt (below_then hgr hg)
      clear hf hg
      simp only [putAll, Nat.zero_add, Nat.reduceAdd, Act.put, List.setIfInBounds_toArray, List.set_cons_succ, List.set_cons_zero]
      rw [h7]
      clear hgr k2 km hT hp
      obtain rfl := hjk
      have hT2 := HT.out.keep HG.out
      have hl := hT2.len
      have hjc : j < cs.length := by omega
      obtain ⟨qc, oc, rfl, _, hqc, hcc⟩ := hT2.rows (by simp; omega)
      obtain ⟨pj, hpj⟩ : ∃ pj, cs[j] = pj := ⟨_, rfl⟩
      have hmem : pj ∈ cs := hpj ▸ List.getElem_mem hjc
      have hbs : pj.bs = idealL j msg := by rw [← hpj, hT2.code j hlt, hmj, hm1]
      have q1 : w2.cell? ⟨qc, oc + j, none⟩ = some (.slice pj.A pj.bs.length pj.c) := by rw [hcc j (by simp; omega)]; simp [hpj, Piece.val]
      have q2 := (HX.out.2.keep HG.out).val
      have kX2 := (HG.out.block _ (Array.getElem?_eq_some_iff.1 KX.out).1).trans KX.out
      have kR2 := (HG.out.block _ (Array.getElem?_eq_some_iff.1 KR.out).1).trans KR.out
      have hqc' : qc ≠ w.heap.size + 1 := by
        obtain ⟨q', o', e', _, h', _⟩ := HT0.out.rows (by simp; omega)
        cases e'
        omega
      have d0 : w2.cell? ⟨w.heap.size, 0, none⟩ = some (.slice none 0 0) := by rw [cell_of_row w2 _ _ _ _ _ kX2]; rfl
      have d1 : w2.cell? ⟨w.heap.size, 1, none⟩ = some (.bool true) := by rw [cell_of_row w2 _ _ _ _ _ kX2]; rfl
      have d2 : w2.cell? ⟨w.heap.size, 2, none⟩ = some (.slice (some ⟨qm, om, none⟩) made.length cm) := by rw [cell_of_row w2 _ _ _ _ _ kX2]; rfl
      have e0 : w2.cell? ⟨w.heap.size + 1, 0, none⟩ = some (.slice none 0 0) := by rw [cell_of_row w2 _ _ _ _ _ kR2]; rfl
      have e1 : w2.cell? ⟨w.heap.size + 1, 1, none⟩ = some (.bool false) := by rw [cell_of_row w2 _ _ _ _ _ kR2]; rfl
      have e2 : w2.cell? ⟨w.heap.size + 1, 2, none⟩ = some (.slice none 0 0) := by rw [cell_of_row w2 _ _ _ _ _ kR2]; rfl
      have e3 : w2.cell? ⟨w.heap.size + 1, 3, none⟩ = some (.slice none 0 0) := by rw [cell_of_row w2 _ _ _ _ _ kR2]; rfl
      have z : ∀ i, w2.frozen? ⟨w.heap.size + 1, i, none⟩ = false := fun i => by simp [World.frozen?, kR2]
      have z0 := z 0
      have z1 := z 1
      have z2 := z 2
      have z3 := z 3
      have BB : Hid (Below w.heap.size w w2) := hideIt (below_then HB.out HG.out)
      have KZ := hideIt (row_setT kR2 (.slice none 0 0) (.bool true) (.slice (some ⟨qm, om, none⟩) made.length cm) (.slice (some ⟨qc, oc, none⟩) made.length cc))
      have HBS := hideIt hbs
      clear hbs z
      clear kX2 kR2 hcc hcm hqc hqm hT2 k2' HX HT HP HT0 KX KR EX EX1 S1 HB HG hpj hkn hkm c1
      go_wp2_with fail
      go_region
      all_goals
        go_wp2_with fail
        (try simp only [Exit.inBlock, Exit.then])
        refine bodyPost_ret (results_T Tryd.results27 _ _ (w.heap.size + 1) _ _ _ _ _ rfl rfl (by exact KZ.out)) rfl ?_
        exact ⟨pj, rfl, HBS.out, hmem, ((below_setT BB.out (Nat.le_succ _) _ _ _ _).drew)⟩
    · skip
      have hT := HT.out.keep hgr
      obtain ⟨qm, om, rfl, _, hqm, hcm⟩ := hT.strs (by simp; omega)
      obtain ⟨mj, hmj⟩ : ∃ mj, made[j] = mj := ⟨_, rfl⟩
      have km : CellAt wr ⟨qm, om + j, none⟩ (.string (strOf mj)) := ⟨by rw [hcm j (by simp; omega)]; simp [hmj], hqm⟩
      have k2 := HX.out.1.keep hgr
      have hp := HP.out.keep hgr
      go_wp2_with fail
      have hm1 : mj ≠ msg := hmj ▸ hkn j hlt (by omega)
      refine region_inv [Fact.is (.pointer (some ⟨w.heap.size, 2, none⟩)), Fact.is (.slice (some ⟨qm, om, none⟩) made.length cm), Fact.is (.int .i64 (j : Int)), Fact.is (.pointer (some ⟨qm, om + j, none⟩)), Fact.str (mj), Fact.is (.slice A n c), Fact.str (msg), Fact.is (.bool false)] (by kernel_rfl) (by kernel_rfl) ⟨fun a w1 m => ?_, fun a w1 m => ?_, fun a w1 m => ?_, fun a w1 m => ?_, fun a w1 m => ?_, fun a w1 m => ?_, fun a w1 m => ?_, fun a w1 m => ?_, trivial⟩ ?_
      · exact ok_tfield (wanted_none rfl) (.tmp 2) 2 (by simp) rfl _ (m.old 2 rfl)
      · exact ok_loadStrs (wanted_none rfl) (.tmp 27) rfl _ _ (m.has 0 27 rfl rfl) (k2.keep m.grew).val
      · exact ok_move (wanted_none rfl) (.tmp 6) rfl (m.old 6 rfl)
      · exact ok_indexStrs (wanted_none rfl) (.tmp 28) (.tmp 29) rfl _ _ _ _ j (m.has 1 28 rfl rfl) (m.has 2 29 rfl rfl) hlt
      · exact ok_loadStr (wanted_none rfl) (.tmp 30) rfl _ _ (m.has 3 30 rfl rfl) (km.keep m.grew).val
      · exact ok_move (wanted_none rfl) (.tmp 1) rfl (m.old 1 rfl)
      · exact ok_str (wanted_none rfl) (.tmp 32) rfl _ (by rw [show a.eval (.tmp 32) = _ from m.has 5 32 rfl rfl, ← hn]; exact ⟨_, _, rfl, hp.keep m.grew⟩)
      · exact ok_streq (wanted_none rfl) (.tmp 31) (.tmp 33) _ rfl _ _ (m.has 4 31 rfl rfl) (m.has 6 33 rfl rfl) _ (decide_eq_false (fun e => hm1 (strOf_inj e)))
      intro f w2 hg hf
      have h7 : f 7 = .bool false := hf 7 (by decide)
      have HG := hideIt (below_then hgr hg)
      clear hf hg
      simp only [putAll, Nat.zero_add, Nat.reduceAdd, Act.put, List.setIfInBounds_toArray, List.set_cons_succ, List.set_cons_zero]
      rw [h7]
      clear hgr k2 km hT hp
      go_wp2_with fail
      go_roundw
      case rel => exact ⟨j + 1, by omega, by go_num, HG.out⟩
      case measure => simp [intOf]; omega
end Go.Proofs.YtigocnaminkodaaDoor
