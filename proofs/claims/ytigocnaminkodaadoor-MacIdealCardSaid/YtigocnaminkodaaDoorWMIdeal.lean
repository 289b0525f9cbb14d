/- The walk of MacIdeal. -/
import Derived.Test.YtigocnaminkodaaDoorMacBig
import Derived.Test.YtigocnaminkodaaDoorFacts2
import Derived.Test.YtigocnaminkodaaDoorFacts3
namespace Go.Proofs.YtigocnaminkodaaDoor
open Go.ChangeShapes Go.WideShapes Go.ChangeAt Go.RowKit
set_option linter.unusedVariables false
set_option linter.unusedSimpArgs false

/-- what stands between two rounds: the program's ideal Maker and the reference's, both of what was made -/
structure Both (w wr : World) (g b gT B : Nat) (ms : List (List UInt8)) (made : List (List UInt8)) (Am : Option Addr) (cm : Nat) (Ac : Option Addr) (cc : Nat) (cs : List Piece) : Prop where
  ideal : IdealAt wr g b made
  tee : TOk wr B Am cm Ac cc made cs
  row : wr.heap[gT]? = some (.cells #[.slice none 0 0, .bool true, .slice Am made.length cm, .slice Ac made.length cc] 47 (0, 0))
  once : made.Nodup
  sub : ∀ x ∈ made, x ∈ ms
  bel : Below w.heap.size w wr

theorem Both.keep {w wr w' : World} {g b gT B : Nat} {ms made : List (List UInt8)} {Am Ac : Option Addr} {cm cc : Nat} {cs : List Piece} (h : Both w wr g b gT B ms made Am cm Ac cc cs) (hg : Grew wr w') : Both w w' g b gT B ms made Am cm Ac cc cs :=
  ⟨h.ideal.keep hg, h.tee.keep hg, (hg.block _ (Array.getElem?_eq_some_iff.1 h.row).1).trans h.row, h.once, h.sub, below_then h.bel hg⟩
theorem go_refprove : goFn Tryd.prog 28 = true := by kernel_rfl
section
variable {ops : Array Oper} {Q : Exit → Act → World → Prop} {G : Fact} {o : Oper} {a : Act} {w : World}
theorem ok_loadT (hg : Region.wanted o (yielded ops a.tmps) = true) (x : Operand) (ho : o.op = .load 47 x) (g : Nat) (x0 x1 x2 x3 : Value) (hx : a.eval x = .pointer (some ⟨g, 0, none⟩)) (hc : w.heap[g]? = some (.cells #[x0, x1, x2, x3] 47 (0, 0))) : StepOk Tryd.prog ops Q (Fact.is (.agg #[x0, x1, x2, x3])) o a w := by
  have hr := run_loadVar_row (P := Tryd.prog) w g 47 47 _ (0, 0) _ hc Tryd.underlying47 rfl info_T
  exact ok_same hg _ (by simp only [execOp, ho, hx, Instr.loadAt, Instr.sureAddr, Sem.run_bind, Sem.run_pure, Result.andThen_ok, hr]) rfl
theorem ok_boolne (hg : Region.wanted o (yielded ops a.tmps) = true) (x y : Operand) (t : TypeId) (ho : o.op = .binOp .neq 4 x y t) (b : Bool) (h1 : a.eval x = .bool b) (h2 : a.eval y = .bool b) : StepOk Tryd.prog ops Q (Fact.is (.bool false)) o a w := by
  refine ok_same hg _ ?_ rfl
  cases b <;> (simp only [execOp, ho, h1, h2]; go_simp)
end
set_option maxRecDepth 100000 in
set_option maxHeartbeats 4000000 in
theorem macIdeal_rest (A0 : Option Addr) (n0 c0 : Nat) (ps : List Piece) (A1 : Option Addr) (n1 c1 : Nat) (bl : List Bool) (A2 : Option Addr) (n2 c2 : Nat) (bs2 : List UInt8) (w : World)
    (h0 : RowAt w 0 A0 (ps.map Piece.val)) (hn0 : ps.length = n0) (hp : ∀ p ∈ ps, PieceOk w p) (h1 : RowAt w 0 A1 (bl.map Value.bool)) (hn1 : bl.length = n1) (h2 : BytesAt w w.heap.size A2 bs2) (hn2 : bs2.length = n2) (m1 : n1 ≤ 140737488355328) (m2 : n2 ≤ 140737488355328) (hT : Tabs w)
    (h20 : n0 ≤ 20) (hpos : 0 < n0) (hbig : (allL ps).length ≤ 400) :
    Calls Tryd.prog 6 #[.slice A0 n0 c0, .slice A1 n1 c1, .slice A2 n2 c2] w fun e w' => e = .returned (.bool true) ∧ Below w.heap.size w w' := by
  have i1 : ¬ (20 : Int) < (n0 : Int) := by omega
  have i2 : ¬ (n0 : Int) = 0 := by omega
  have i3 : (n0 : Int) ≤ 20 := by omega
  have i4 : (n1 : Int) ≤ 140737488355328 := by omega
  have i5 : (n2 : Int) ≤ 140737488355328 := by omega
  have i6 : (0 : Int) < (n0 : Int) := by omega
  have HBig := hideIt (big_any A0 ps n0 c0 w h0 hn0 h20 (fun p h => (hp p h).long))
  have H0 := hideIt h0
  have HPs := hideIt hp
  have H1 := hideIt h1
  have H2 := hideIt h2
  have HT := hideIt hT
  have hsz := hideIt hT.size
  have hb : decide (400 < (allL ps).length) = false := decide_eq_false (by omega)
  clear h0 hp h1 h2 hT
  rw [hb] at HBig
  go_enter Tryd.func6, Tryd.ntmps6
  go_wp2_with fail
  refine HBig.out.mono ?_
  rintro e w1 ⟨rfl, rfl⟩
  go_wp2_with fail
  refine (known3_any w HT.out).mono ?_
  rintro e w1 ⟨rfl, b1⟩
  have B1 := hideIt b1
  clear b1 HBig
  go_wp2_with fail
  refine (ideal_any w1).mono ?_
  rintro e w2 ⟨rfl, hI2, b2⟩
  unfold idealV
  have HI2 := hideIt hI2
  have B2 := hideIt (below_then B1.out b2)
  have L2 := hideIt hI2.lt
  clear hI2 b2
  generalize eX : w2.alloc (.cells #[.slice none 0 0, .bool true, .slice none 0 0, .slice none 0 0] 47) = X
  have bX : Grew w2 X := eX ▸ below_one (Below.refl _ _) _
  have kX : X.heap[w2.heap.size]? = some (.cells #[.slice none 0 0, .bool true, .slice none 0 0, .slice none 0 0] 47 (0, 0)) := eX ▸ heap_alloc_new w2 _
  have HBoth : Hid (Both w X (w1.heap.size + 1) w1.heap.size w2.heap.size (w2.heap.size + 1) (ps.map (·.bs)) [] none 0 none 0 []) := hideIt ⟨HI2.out.keep bX, ⟨fun h => by simp at h, fun h => by simp at h, rfl, fun p h => by simp at h, fun p h => by simp at h, by simp, by simp, fun _ => rfl, fun _ => rfl, by simp⟩, kX, by simp, fun x h => by simp at h, below_then B2.out bX⟩
  have EX := hideIt eX
  have SW := hideIt B1.out.size
  clear eX bX kX HI2 B2 B1
  go_wp2_with fail
  rw [EX.out]
  go_loopw [9] (fun i wr => ∃ j : Nat, ∃ made Am cm Ac cc cs, j ≤ n1 ∧ j ≤ n2 ∧ i = .int .i64 j ∧ Both w wr (w1.heap.size + 1) w1.heap.size w2.heap.size (w2.heap.size + 1) (ps.map (·.bs)) made Am cm Ac cc cs) (fun i _ => n1 - (intOf i).toNat)
  case atStart => exact ⟨0, [], none, 0, none, 0, [], by omega, by omega, rfl, HBoth.out⟩
  case round =>
    clear HBoth EX
    obtain ⟨j, made, Am, cm, Ac, cc, cs, hj1, hj2, rfl, hboth⟩ := hrel
    have HBo := hideIt hboth
    by_cases hlt1 : j < n1
    case neg =>
      have hlt1' : ¬ (j : Int) < (n1 : Int) := by omega
      clear hboth
      go_wp2_with fail
      go_ret
      exact ⟨rfl, HBo.out.bel⟩
    by_cases hlt2 : j < n2
    case neg =>
      have hlt1' : (j : Int) < (n1 : Int) := by omega
      have hlt2' : ¬ (j : Int) < (n2 : Int) := by omega
      clear hboth
      go_wp2_with fail
      go_ret
      exact ⟨rfl, HBo.out.bel⟩
    have hlt1' : (j : Int) < (n1 : Int) := by omega
    have hlt2' : (j : Int) < (n2 : Int) := by omega
    obtain ⟨q2, o2, rfl, hq2, hc2⟩ := H2.out (by omega)
    have kp : wr.cell? ⟨q2, o2 + j, none⟩ = some (.int .u8 ((bs2[j]).toNat : Int)) := (hboth.bel.cell hq2).trans (hc2 j (by omega))
    obtain ⟨k, hk⟩ : ∃ k, (bs2[j]).toNat % n0 = k := ⟨_, rfl⟩
    have hkn : k < n0 := by rw [← hk]; exact Nat.mod_lt _ hpos
    obtain ⟨bv, hbv⟩ : ∃ bv, (bs2[j]).toNat = bv := ⟨_, rfl⟩
    have hb256 : bv < 256 := by rw [← hbv]; exact (bs2[j]).toNat_lt
    rw [hbv] at kp hk
    obtain ⟨q0, o0, rfl, _, hq0, hc0⟩ := H0.out (by simp; omega)
    obtain ⟨px, hpx⟩ : ∃ px, ps[k] = px := ⟨_, rfl⟩
    have hmem : px ∈ ps := hpx ▸ List.getElem_mem _
    have kx : wr.cell? ⟨q0, o0 + k, none⟩ = some (.slice px.A px.bs.length px.c) := (hboth.bel.cell hq0).trans ((hc0 k (by simp; omega)).trans (by simp [hpx, Piece.val]))
    obtain ⟨q1, o1, rfl, _, hq1, hc1⟩ := H1.out (by simp; omega)
    obtain ⟨bb, hbb⟩ : ∃ bb, bl[j] = bb := ⟨_, rfl⟩
    have ka : wr.cell? ⟨q1, o1 + j, none⟩ = some (.bool bb) := (hboth.bel.cell hq1).trans ((hc1 j (by simp; omega)).trans (by simp [hbb]))
    have hki : (k : Int) < (n0 : Int) := by omega
    have hrem : (bv : Int) % (n0 : Int) = (k : Int) := by rw [← hk]; rfl
    have hrem' : (bv : Int).tmod (n0 : Int) = (k : Int) := by rw [← hk]; rfl
    have hbi : (bv : Int) < 256 := by omega
    clear hc0 hc1 hc2 hboth
    have HPX := hideIt (HPs.out px hmem)
    have hx400 : px.bs.length ≤ 400 := Nat.le_trans (allL_each hmem) hbig
    have hmp : px.bs ∈ ps.map (·.bs) := List.mem_map.2 ⟨px, hmem, rfl⟩
    cases bb
    case false =>
      generalize wr = wz at *
      have HBz := HBo
      have hfew : made.length ≤ 20 := by have := nodup_le _ _ HBz.out.once HBz.out.sub; rw [List.length_map] at this; omega
      have hfew' : (made.length : Int) ≤ 20 := by omega
      have kT0 := HBz.out.row
      have hltT := (Array.getElem?_eq_some_iff.1 kT0).1
      have K3 : Hid (CellAt wz ⟨w2.heap.size, 3, none⟩ (.slice Ac made.length cc)) := hideIt ⟨by rw [cell_of_row _ _ _ _ _ _ kT0]; rfl, hltT⟩
      have KT := hideIt kT0
      clear kT0 hltT
      go_wp2_with fail
      go_loopw [13] (fun i wr => ∃ k2 : Nat, k2 ≤ made.length ∧ i = .int .i64 k2 ∧ Grew wz wr) (fun i _ => made.length - (intOf i).toNat)
      case atStart => exact ⟨0, by omega, rfl, Grew.refl _⟩
      case round =>
        obtain ⟨k2, hk2', rfl, hgr⟩ := hrel
        have k3' := (K3.out.keep hgr).val
        have hpx := HPX.out.keep (below_then HBz.out.bel hgr)
        have hI := HBz.out.ideal.keep hgr
        have hT := HT.out.keep (below_then HBz.out.bel hgr)
        have hTT := HBz.out.tee.keep hgr
        have kT := (hgr.block _ (Array.getElem?_eq_some_iff.1 KT.out).1).trans KT.out
        have hm : made.length ≤ 1000000 := by omega
        by_cases hk2 : k2 < made.length
        · have hk2i : (k2 : Int) < (made.length : Int) := by omega
          obtain ⟨qc, oc, rfl, _, hqc, hcc⟩ := hTT.rows (by simp; have := hTT.len; omega)
          have hkc : k2 < cs.length := by have := hTT.len; omega
          obtain ⟨pk, hpk'⟩ : ∃ pk, cs[k2] = pk := ⟨_, rfl⟩
          have hpk : PieceOk wr pk := hpk' ▸ hTT.ok _ (List.getElem_mem hkc)
          have kc : CellAt wr ⟨qc, oc + k2, none⟩ (.slice pk.A pk.bs.length pk.c) := ⟨by rw [hcc k2 (by simp; omega)]; simp [hpk', Piece.val], hqc⟩
          have k3 := K3.out.keep hgr
          obtain ⟨r, hr⟩ : ∃ r, ((posL px.bs made 0).any fun j => decide (idealL j px.bs = pk.bs)) = r := ⟨_, rfl⟩
          have hr' : fitsL made px.bs pk.bs made.length = r := (fits_pos _ _ _ HBz.out.once).trans hr
          clear hcc
          go_wp2_with fail
          refine region_inv [Fact.is (.iface 73 (.pointer (some ⟨w1.heap.size + 1, 0, none⟩))), Fact.is (.slice px.A px.bs.length px.c), Fact.is (.pointer (some ⟨w2.heap.size, 3, none⟩)), Fact.is (.slice (some ⟨qc, oc, none⟩) made.length cc), Fact.is (.int .i64 (k2 : Int)), Fact.is (.pointer (some ⟨qc, oc + k2, none⟩)), Fact.is (.slice pk.A pk.bs.length pk.c), Fact.is (.func (.method "Prove") #[.iface 73 (.pointer (some ⟨w1.heap.size + 1, 0, none⟩))] #[]), Fact.is (.func (.method "Prove") #[.iface 73 (.pointer (some ⟨w1.heap.size + 1, 0, none⟩))] #[]), Fact.is (.iface 73 (.pointer (some ⟨w1.heap.size + 1, 0, none⟩))), Fact.is (.bool r), Fact.is (.agg #[.slice none 0 0, .bool true, .slice Am made.length cm, .slice (some ⟨qc, oc, none⟩) made.length cc]), Fact.is (.slice px.A px.bs.length px.c), Fact.is (.pointer (some ⟨w2.heap.size, 3, none⟩)), Fact.is (.slice (some ⟨qc, oc, none⟩) made.length cc), Fact.is (.int .i64 (k2 : Int)), Fact.is (.pointer (some ⟨qc, oc + k2, none⟩)), Fact.is (.slice pk.A pk.bs.length pk.c), Fact.is (.bool r), Fact.is (.bool false)] (by kernel_rfl) (by kernel_rfl) ⟨fun a w1 m => ?_, fun a w1 m => ?_, fun a w1 m => ?_, fun a w1 m => ?_, fun a w1 m => ?_, fun a w1 m => ?_, fun a w1 m => ?_, fun a w1 m => ?_, fun a w1 m => ?_, fun a w1 m => ?_, fun a w1 m => ?_, fun a w1 m => ?_, fun a w1 m => ?_, fun a w1 m => ?_, fun a w1 m => ?_, fun a w1 m => ?_, fun a w1 m => ?_, fun a w1 m => ?_, fun a w1 m => ?_, fun a w1 m => ?_, trivial⟩ ?_
          · exact ok_move (wanted_none rfl) (.tmp 7) rfl (m.old 7 rfl)
          · exact ok_move (wanted_none rfl) (.tmp 10) rfl (m.old 10 rfl)
          · exact ok_tfield (wanted_none rfl) (.tmp 8) 3 (by simp) rfl _ (m.old 8 rfl)
          · exact ok_loadRows (wanted_none rfl) (.tmp 83) rfl _ _ (m.has 2 83 rfl rfl) (k3.keep m.grew).val
          · exact ok_move (wanted_none rfl) (.tmp 13) rfl (m.old 13 rfl)
          · exact ok_indexRows (wanted_none rfl) (.tmp 84) (.tmp 85) rfl _ _ _ _ k2 (m.has 3 84 rfl rfl) (m.has 4 85 rfl rfl) hk2
          · exact ok_loadRow (wanted_none rfl) (.tmp 86) rfl _ _ (m.has 5 86 rfl rfl) (kc.keep m.grew).val
          · exact ok_makeFunc (wanted_none rfl) "Prove" (.tmp 81) rfl _ (m.has 0 81 rfl rfl)
          · exact ok_nilFn (wanted_none rfl) (.tmp 88) rfl "Prove" _ _ (m.has 7 88 rfl rfl) (by kernel_rfl)
          · exact ok_move (wanted_none rfl) (.tmp 81) rfl (m.has 0 81 rfl rfl)
          · exact ok_invoke (wanted_none rfl) _ _ _ _ rfl _ (m.has 9 90 rfl rfl) _ (map2 (m.has 1 82 rfl rfl) (m.has 6 87 rfl rfl)) _ _ (call_idealProve _ _ _ _) ((idealProve_any _ _ _ _ _ _ _ _ _ _ _ w1 (hI.keep m.grew) hm (hT.keep m.grew) (hpx.keep m.grew) rfl (hpk.keep m.grew) rfl r hr).mono (fun e w' ⟨h1, h2⟩ => ⟨_, h1, rfl, h2⟩))
          · exact ok_loadT (wanted_none rfl) (.tmp 8) rfl _ _ _ _ _ (m.old 8 rfl) ((m.grew.block _ (Array.getElem?_eq_some_iff.1 kT).1).trans kT)
          · exact ok_move (wanted_none rfl) (.tmp 10) rfl (m.old 10 rfl)
          · exact ok_tfield (wanted_none rfl) (.tmp 8) 3 (by simp) rfl _ (m.old 8 rfl)
          · exact ok_loadRows (wanted_none rfl) (.tmp 94) rfl _ _ (m.has 13 94 rfl rfl) (k3.keep m.grew).val
          · exact ok_move (wanted_none rfl) (.tmp 13) rfl (m.old 13 rfl)
          · exact ok_indexRows (wanted_none rfl) (.tmp 95) (.tmp 96) rfl _ _ _ _ k2 (m.has 14 95 rfl rfl) (m.has 15 96 rfl rfl) hk2
          · exact ok_loadRow (wanted_none rfl) (.tmp 97) rfl _ _ (m.has 16 97 rfl rfl) (kc.keep m.grew).val
          · exact ok_fn (wanted_none rfl) _ _ _ rfl _ (map3 (m.has 11 92 rfl rfl) (m.has 12 93 rfl rfl) (m.has 17 98 rfl rfl)) go_refprove (refprove_any _ _ _ _ _ _ _ _ _ _ _ _ _ _ _ w1 (hTT.keep m.grew) (hpx.keep m.grew) rfl (hpk.keep m.grew) rfl) (fun e w' ⟨h1, h2⟩ => ⟨_, h1, by rw [hr']; rfl, h2⟩)
          · exact ok_boolne (wanted_none rfl) (.tmp 91) (.tmp 99) _ rfl r (m.has 10 91 rfl rfl) (m.has 18 99 rfl rfl)
          intro f w6 hg hf
          have hno : f 19 = .bool false := hf 19 (by decide)
          have HG := hideIt (below_then hgr hg)
          clear hf hg
          simp only [putAll, Nat.zero_add, Nat.reduceAdd, Act.put, List.setIfInBounds_toArray, List.set_cons_succ, List.set_cons_zero]
          rw [hno]
          clear hgr hpx hI hT hTT kT hm hr hr' k3' hpk kc k3
          go_wp2_with fail
          go_roundw
          case rel => exact ⟨k2 + 1, by omega, by go_num, HG.out⟩
          case measure => simp [intOf]; omega
        · obtain rfl : k2 = made.length := by omega
          obtain ⟨r, hr⟩ : ∃ r, ((posL px.bs made 0).any fun j => decide (idealL j px.bs = px.bs)) = r := ⟨_, rfl⟩
          have hr' : fitsL made px.bs px.bs made.length = r := (fits_pos _ _ _ HBz.out.once).trans hr
          go_wp2_with fail
          refine region_inv [Fact.is (.iface 73 (.pointer (some ⟨w1.heap.size + 1, 0, none⟩))), Fact.is (.slice px.A px.bs.length px.c), Fact.is (.slice px.A px.bs.length px.c), Fact.is (.bool r), Fact.is (.agg #[.slice none 0 0, .bool true, .slice Am made.length cm, .slice Ac made.length cc]), Fact.is (.slice px.A px.bs.length px.c), Fact.is (.slice px.A px.bs.length px.c), Fact.is (.bool r), Fact.is (.bool false)] (by kernel_rfl) (by kernel_rfl) ⟨fun a w1 m => ?_, fun a w1 m => ?_, fun a w1 m => ?_, fun a w1 m => ?_, fun a w1 m => ?_, fun a w1 m => ?_, fun a w1 m => ?_, fun a w1 m => ?_, fun a w1 m => ?_, trivial⟩ ?_
          · exact ok_move (wanted_none rfl) (.tmp 7) rfl (m.old 7 rfl)
          · exact ok_move (wanted_none rfl) (.tmp 10) rfl (m.old 10 rfl)
          · exact ok_move (wanted_none rfl) (.tmp 10) rfl (m.old 10 rfl)
          · exact ok_invoke (wanted_none rfl) _ _ _ _ rfl _ (m.has 0 101 rfl rfl) _ (map2 (m.has 1 102 rfl rfl) (m.has 2 103 rfl rfl)) _ _ (call_idealProve _ _ _ _) ((idealProve_any _ _ _ _ _ _ _ _ _ _ _ w1 (hI.keep m.grew) hm (hT.keep m.grew) (hpx.keep m.grew) rfl (hpx.keep m.grew) rfl r hr).mono (fun e w' ⟨h1, h2⟩ => ⟨_, h1, rfl, h2⟩))
          · exact ok_loadT (wanted_none rfl) (.tmp 8) rfl _ _ _ _ _ (m.old 8 rfl) ((m.grew.block _ (Array.getElem?_eq_some_iff.1 kT).1).trans kT)
          · exact ok_move (wanted_none rfl) (.tmp 10) rfl (m.old 10 rfl)
          · exact ok_move (wanted_none rfl) (.tmp 10) rfl (m.old 10 rfl)
          · exact ok_fn (wanted_none rfl) _ _ _ rfl _ (map3 (m.has 4 105 rfl rfl) (m.has 5 106 rfl rfl) (m.has 6 107 rfl rfl)) go_refprove (refprove_any _ _ _ _ _ _ _ _ _ _ _ _ _ _ _ w1 (hTT.keep m.grew) (hpx.keep m.grew) rfl (hpx.keep m.grew) rfl) (fun e w' ⟨h1, h2⟩ => ⟨_, h1, by rw [hr']; rfl, h2⟩)
          · exact ok_boolne (wanted_none rfl) (.tmp 104) (.tmp 108) _ rfl r (m.has 3 104 rfl rfl) (m.has 7 108 rfl rfl)
          intro f w6 hg hf
          have hno : f 8 = .bool false := hf 8 (by decide)
          have HG := hideIt (below_then hgr hg)
          clear hf hg
          simp only [putAll, Nat.zero_add, Nat.reduceAdd, Act.put, List.setIfInBounds_toArray, List.set_cons_succ, List.set_cons_zero]
          rw [hno]
          clear hgr hpx hI hT hTT kT hm hr hr' k3' 
          go_wp2_with fail
          go_roundw
          case rel => exact ⟨j + 1, made, Am, cm, Ac, cc, cs, by omega, by omega, by go_num, HBz.out.keep HG.out⟩
          case measure => simp [intOf]; omega
    case true =>
      generalize wr = wq at *
      have hfew0 : made.length ≤ 20 := by have := nodup_le _ _ HBo.out.once HBo.out.sub; rw [List.length_map] at this; omega
      have kT0 := HBo.out.row
      have hltT := (Array.getElem?_eq_some_iff.1 kT0).1
      have d0 : wq.cell? ⟨w2.heap.size, 0, none⟩ = some (.slice none 0 0) := by rw [cell_of_row wq _ _ _ _ _ kT0]; rfl
      have d1 : wq.cell? ⟨w2.heap.size, 1, none⟩ = some (.bool true) := by rw [cell_of_row wq _ _ _ _ _ kT0]; rfl
      have d2 : wq.cell? ⟨w2.heap.size, 2, none⟩ = some (.slice Am made.length cm) := by rw [cell_of_row wq _ _ _ _ _ kT0]; rfl
      have d3 : wq.cell? ⟨w2.heap.size, 3, none⟩ = some (.slice Ac made.length cc) := by rw [cell_of_row wq _ _ _ _ _ kT0]; rfl
      have HMk := hideIt (refmake_any Am cm Ac cc made cs (w2.heap.size + 1) px.A px.bs px.bs.length px.c wq HBo.out.tee (by omega) (by omega) (HPX.out.keep HBo.out.bel) rfl hx400)
      have KT0 := hideIt kT0
      have HLT := hideIt hltT
      clear kT0 hltT
      go_wp2_with fail
      refine HMk.out.mono ?_
      rintro e w3 ⟨Bm, bm, Bc, bc, ds, p, rfl, hpb, hpk, hpf, hT3, b3⟩
      clear d0 d1 d2 d3 kp kx ka HMk
      have kT3 := (b3.block _ HLT.out).trans KT0.out
      have e0 : w3.cell? ⟨w2.heap.size, 0, none⟩ = some (.slice none 0 0) := by rw [cell_of_row w3 _ _ _ _ _ kT3]; rfl
      have e1 : w3.cell? ⟨w2.heap.size, 1, none⟩ = some (.bool true) := by rw [cell_of_row w3 _ _ _ _ _ kT3]; rfl
      have e2 : w3.cell? ⟨w2.heap.size, 2, none⟩ = some (.slice Am made.length cm) := by rw [cell_of_row w3 _ _ _ _ _ kT3]; rfl
      have e3 : w3.cell? ⟨w2.heap.size, 3, none⟩ = some (.slice Ac made.length cc) := by rw [cell_of_row w3 _ _ _ _ _ kT3]; rfl
      have z0 := frozen_of_row w3 _ 0 _ _ kT3
      have z1 := frozen_of_row w3 _ 1 _ _ kT3
      have z2 := frozen_of_row w3 _ 2 _ _ kT3
      have z3 := frozen_of_row w3 _ 3 _ _ kT3
      have hlt3 : w2.heap.size < w3.heap.size := Nat.lt_of_lt_of_le HLT.out b3.size
      have hne3 : ¬ w2.heap.size = w3.heap.size := by omega
      have hmkn := with_nodup HBo.out.once px.bs
      have hmks := with_sub HBo.out.sub hmp
      have hI3 := HBo.out.ideal.keep b3
      have hbel3 := below_then HBo.out.bel b3
      obtain ⟨mk, hmk⟩ : ∃ mk, withL made px.bs = mk := ⟨_, rfl⟩
      rw [hmk] at hmkn hmks hT3 ⊢
      have HPB := hideIt hpb
      have HPK := hideIt hpk
      have HPF := hideIt hpf
      have HT3 := hideIt hT3
      have KT3 := hideIt kT3
      have HMN := hideIt hmkn
      have HMS := hideIt hmks
      have HI3 := hideIt hI3
      have HBL3 := hideIt hbel3
      have HMK := hideIt hmk
      clear hpb hpk hpf hT3 kT3 hmkn hmks hI3 hbel3 hmk b3
      unfold tV Piece.val
      generalize eW : (((((w3.setCell ⟨w2.heap.size, 0, none⟩ (.slice none 0 0)).setCell ⟨w2.heap.size, 1, none⟩ (.bool true)).setCell ⟨w2.heap.size, 2, none⟩ (.slice Bm mk.length bm)).setCell ⟨w2.heap.size, 3, none⟩ (.slice Bc mk.length bc)).alloc (.cells #[.slice none 0 0, .bool true, .slice Bm mk.length bm, .slice Bc mk.length bc] 47)) = W4
      have hM := made_setT w3 w2.heap.size (.slice none 0 0) (.bool true) (.slice Bm mk.length bm) (.slice Bc mk.length bc)
      have hR := row_setT KT3.out (.slice none 0 0) (.bool true) (.slice Bm mk.length bm) (.slice Bc mk.length bc)
      have hL := below_setT HBL3.out (g := w2.heap.size) (by have := L2.out; have := SW.out; omega) (.slice none 0 0) (.bool true) (.slice Bm mk.length bm) (.slice Bc mk.length bc)
      generalize eS : ((((w3.setCell ⟨w2.heap.size, 0, none⟩ (.slice none 0 0)).setCell ⟨w2.heap.size, 1, none⟩ (.bool true)).setCell ⟨w2.heap.size, 2, none⟩ (.slice Bm mk.length bm)).setCell ⟨w2.heap.size, 3, none⟩ (.slice Bc mk.length bc)) = S4 at *
      have b4 : Grew S4 W4.drew := (eW ▸ below_one (Below.refl _ _) _ : Grew S4 W4).drew
      have l2 := L2.out
      have sw := SW.out
      have hI4 : IdealAt W4.drew (w1.heap.size + 1) w1.heap.size made := (HI3.out.made (g' := 0) hM (by omega) (by omega)).keep b4
      have hTT4 := (HT3.out.made hM (by omega)).keep b4
      have hRow4 := (b4.block _ (Array.getElem?_eq_some_iff.1 hR).1).trans hR
      have hp4 : PieceOk W4.drew p := (HPK.out.made hM (fun q off e hn => by have := HPF.out q off e hn; omega)).keep b4
      have hL4 := below_then hL b4
      have hpx4 := HPX.out.keep hL4
      obtain ⟨sx, hsx⟩ : ∃ sx, strOf (idealL (aheadL made px.bs) px.bs) = sx := ⟨_, rfl⟩
      have s4 : (convert 22 9 (.slice p.A p.bs.length p.c)).run Tryd.prog W4.drew = .ok (.string sx) W4.drew := by rw [conv_bytes p.A p.bs p.bs.length p.c _ W4.drew hp4.bytes rfl, HPB.out, hsx]
      have HMake := hideIt (idealMake_any (w1.heap.size + 1) w1.heap.size made px.A px.bs px.bs.length px.c W4.drew hI4 (by omega) (HT.out.keep hL4) (by have := hsz.out; omega) hpx4 (HPX.out.away (by omega)) rfl)
      have TT4 := hideIt hTT4
      have ROW4 := hideIt hRow4
      have P4 := hideIt hp4
      have LL4 := hideIt hL4
      have ES := hideIt eS
      have EW := hideIt eW
      have SX := hideIt hsx
      clear hM hR hL b4 hI4 hTT4 hRow4 hp4 hL4 hpx4 eS eW hsx l2 sw
      go_wp2_with fail
      rw [ES.out, EW.out]
      go_region_with (go_at_call 65; refine HMake.out.mono ?_; rintro e w5 ⟨v, rfl, ⟨g5, hg5, rfl, o5⟩, hI5, m5⟩; have s5 : (convert 22 9 (.slice p.A p.bs.length p.c)).run Tryd.prog w5 = .ok (.string sx) w5 := (by rw [conv_bytes p.A p.bs p.bs.length p.c _ w5 (P4.out.made m5 (fun q off e hn => by have := HPF.out q off e hn; have := L2.out; omega)).bytes rfl, HPB.out, SX.out]); have s6 : (convert 22 9 (.slice (some ⟨g5, 0, none⟩) 32 32)).run Tryd.prog w5 = .ok (.string sx) w5 := (by rw [conv_bytes (some ⟨g5, 0, none⟩) _ 32 32 _ w5 (own_bytes o5) (idealL_length _ _), SX.out]); have HI5 := hideIt hI5; have M5 := hideIt m5; clear hI5 m5 o5)
      all_goals
        have HBz : Hid (Both w w5 (w1.heap.size + 1) w1.heap.size w2.heap.size (w2.heap.size + 1) (ps.map (·.bs)) mk Bm bm Bc bc ds) := hideIt ⟨by rw [← HMK.out]; exact HI5.out, TT4.out.made M5.out (by have := L2.out; omega), (M5.out.block _ (Array.getElem?_eq_some_iff.1 ROW4.out).1 (by have := L2.out; omega)).trans ROW4.out, HMN.out, HMS.out, LL4.out.trans (M5.out.below (by have := SW.out; omega) LL4.out.size)⟩
        clear s4 s5 s6 e0 e1 e2 e3 z0 z1 z2 z3 hlt3 hne3 HMake HI5 M5 TT4 ROW4 P4 LL4 ES EW SX HPB HPK HPF HT3 KT3 HMN HMS HI3 HBL3 HMK HBo KT0 HLT
        have hfew : mk.length ≤ 20 := by have := nodup_le _ _ HBz.out.once HBz.out.sub; rw [List.length_map] at this; omega
        have hfew' : (mk.length : Int) ≤ 20 := by omega
        have kT0 := HBz.out.row
        have hltT := (Array.getElem?_eq_some_iff.1 kT0).1
        have K3 : Hid (CellAt w5 ⟨w2.heap.size, 3, none⟩ (.slice Bc mk.length bc)) := hideIt ⟨by rw [cell_of_row _ _ _ _ _ _ kT0]; rfl, hltT⟩
        have KT := hideIt kT0
        clear kT0 hltT
        go_wp2_with fail
        go_loopw [13] (fun i wr => ∃ k2 : Nat, k2 ≤ mk.length ∧ i = .int .i64 k2 ∧ Grew w5 wr) (fun i _ => mk.length - (intOf i).toNat)
        case atStart => exact ⟨0, by omega, rfl, Grew.refl _⟩
        case round =>
          obtain ⟨k2, hk2', rfl, hgr⟩ := hrel
          have k3' := (K3.out.keep hgr).val
          have hpx := HPX.out.keep (below_then HBz.out.bel hgr)
          have hI := HBz.out.ideal.keep hgr
          have hT := HT.out.keep (below_then HBz.out.bel hgr)
          have hTT := HBz.out.tee.keep hgr
          have kT := (hgr.block _ (Array.getElem?_eq_some_iff.1 KT.out).1).trans KT.out
          have hm : mk.length ≤ 1000000 := by omega
          by_cases hk2 : k2 < mk.length
          · have hk2i : (k2 : Int) < (mk.length : Int) := by omega
            obtain ⟨qc, oc, rfl, _, hqc, hcc⟩ := hTT.rows (by simp; have := hTT.len; omega)
            have hkc : k2 < ds.length := by have := hTT.len; omega
            obtain ⟨pk, hpk'⟩ : ∃ pk, ds[k2] = pk := ⟨_, rfl⟩
            have hpk : PieceOk wr pk := hpk' ▸ hTT.ok _ (List.getElem_mem hkc)
            have kc : CellAt wr ⟨qc, oc + k2, none⟩ (.slice pk.A pk.bs.length pk.c) := ⟨by rw [hcc k2 (by simp; omega)]; simp [hpk', Piece.val], hqc⟩
            have k3 := K3.out.keep hgr
            obtain ⟨r, hr⟩ : ∃ r, ((posL px.bs mk 0).any fun j => decide (idealL j px.bs = pk.bs)) = r := ⟨_, rfl⟩
            have hr' : fitsL mk px.bs pk.bs mk.length = r := (fits_pos _ _ _ HBz.out.once).trans hr
            clear hcc
            go_wp2_with fail
            refine region_inv [Fact.is (.iface 73 (.pointer (some ⟨w1.heap.size + 1, 0, none⟩))), Fact.is (.slice px.A px.bs.length px.c), Fact.is (.pointer (some ⟨w2.heap.size, 3, none⟩)), Fact.is (.slice (some ⟨qc, oc, none⟩) mk.length bc), Fact.is (.int .i64 (k2 : Int)), Fact.is (.pointer (some ⟨qc, oc + k2, none⟩)), Fact.is (.slice pk.A pk.bs.length pk.c), Fact.is (.func (.method "Prove") #[.iface 73 (.pointer (some ⟨w1.heap.size + 1, 0, none⟩))] #[]), Fact.is (.func (.method "Prove") #[.iface 73 (.pointer (some ⟨w1.heap.size + 1, 0, none⟩))] #[]), Fact.is (.iface 73 (.pointer (some ⟨w1.heap.size + 1, 0, none⟩))), Fact.is (.bool r), Fact.is (.agg #[.slice none 0 0, .bool true, .slice Bm mk.length bm, .slice (some ⟨qc, oc, none⟩) mk.length bc]), Fact.is (.slice px.A px.bs.length px.c), Fact.is (.pointer (some ⟨w2.heap.size, 3, none⟩)), Fact.is (.slice (some ⟨qc, oc, none⟩) mk.length bc), Fact.is (.int .i64 (k2 : Int)), Fact.is (.pointer (some ⟨qc, oc + k2, none⟩)), Fact.is (.slice pk.A pk.bs.length pk.c), Fact.is (.bool r), Fact.is (.bool false)] (by kernel_rfl) (by kernel_rfl) ⟨fun a w1 m => ?_, fun a w1 m => ?_, fun a w1 m => ?_, fun a w1 m => ?_, fun a w1 m => ?_, fun a w1 m => ?_, fun a w1 m => ?_, fun a w1 m => ?_, fun a w1 m => ?_, fun a w1 m => ?_, fun a w1 m => ?_, fun a w1 m => ?_, fun a w1 m => ?_, fun a w1 m => ?_, fun a w1 m => ?_, fun a w1 m => ?_, fun a w1 m => ?_, fun a w1 m => ?_, fun a w1 m => ?_, fun a w1 m => ?_, trivial⟩ ?_
            · exact ok_move (wanted_none rfl) (.tmp 7) rfl (m.old 7 rfl)
            · exact ok_move (wanted_none rfl) (.tmp 10) rfl (m.old 10 rfl)
            · exact ok_tfield (wanted_none rfl) (.tmp 8) 3 (by simp) rfl _ (m.old 8 rfl)
            · exact ok_loadRows (wanted_none rfl) (.tmp 83) rfl _ _ (m.has 2 83 rfl rfl) (k3.keep m.grew).val
            · exact ok_move (wanted_none rfl) (.tmp 13) rfl (m.old 13 rfl)
            · exact ok_indexRows (wanted_none rfl) (.tmp 84) (.tmp 85) rfl _ _ _ _ k2 (m.has 3 84 rfl rfl) (m.has 4 85 rfl rfl) hk2
            · exact ok_loadRow (wanted_none rfl) (.tmp 86) rfl _ _ (m.has 5 86 rfl rfl) (kc.keep m.grew).val
            · exact ok_makeFunc (wanted_none rfl) "Prove" (.tmp 81) rfl _ (m.has 0 81 rfl rfl)
            · exact ok_nilFn (wanted_none rfl) (.tmp 88) rfl "Prove" _ _ (m.has 7 88 rfl rfl) (by kernel_rfl)
            · exact ok_move (wanted_none rfl) (.tmp 81) rfl (m.has 0 81 rfl rfl)
            · exact ok_invoke (wanted_none rfl) _ _ _ _ rfl _ (m.has 9 90 rfl rfl) _ (map2 (m.has 1 82 rfl rfl) (m.has 6 87 rfl rfl)) _ _ (call_idealProve _ _ _ _) ((idealProve_any _ _ _ _ _ _ _ _ _ _ _ w1 (hI.keep m.grew) hm (hT.keep m.grew) (hpx.keep m.grew) rfl (hpk.keep m.grew) rfl r hr).mono (fun e w' ⟨h1, h2⟩ => ⟨_, h1, rfl, h2⟩))
            · exact ok_loadT (wanted_none rfl) (.tmp 8) rfl _ _ _ _ _ (m.old 8 rfl) ((m.grew.block _ (Array.getElem?_eq_some_iff.1 kT).1).trans kT)
            · exact ok_move (wanted_none rfl) (.tmp 10) rfl (m.old 10 rfl)
            · exact ok_tfield (wanted_none rfl) (.tmp 8) 3 (by simp) rfl _ (m.old 8 rfl)
            · exact ok_loadRows (wanted_none rfl) (.tmp 94) rfl _ _ (m.has 13 94 rfl rfl) (k3.keep m.grew).val
            · exact ok_move (wanted_none rfl) (.tmp 13) rfl (m.old 13 rfl)
            · exact ok_indexRows (wanted_none rfl) (.tmp 95) (.tmp 96) rfl _ _ _ _ k2 (m.has 14 95 rfl rfl) (m.has 15 96 rfl rfl) hk2
            · exact ok_loadRow (wanted_none rfl) (.tmp 97) rfl _ _ (m.has 16 97 rfl rfl) (kc.keep m.grew).val
            · exact ok_fn (wanted_none rfl) _ _ _ rfl _ (map3 (m.has 11 92 rfl rfl) (m.has 12 93 rfl rfl) (m.has 17 98 rfl rfl)) go_refprove (refprove_any _ _ _ _ _ _ _ _ _ _ _ _ _ _ _ w1 (hTT.keep m.grew) (hpx.keep m.grew) rfl (hpk.keep m.grew) rfl) (fun e w' ⟨h1, h2⟩ => ⟨_, h1, by rw [hr']; rfl, h2⟩)
            · exact ok_boolne (wanted_none rfl) (.tmp 91) (.tmp 99) _ rfl r (m.has 10 91 rfl rfl) (m.has 18 99 rfl rfl)
            intro f w6 hg hf
            have hno : f 19 = .bool false := hf 19 (by decide)
            have HG := hideIt (below_then hgr hg)
            clear hf hg
            simp only [putAll, Nat.zero_add, Nat.reduceAdd, Act.put, List.setIfInBounds_toArray, List.set_cons_succ, List.set_cons_zero]
            rw [hno]
            clear hgr hpx hI hT hTT kT hm hr hr' k3' hpk kc k3
            go_wp2_with fail
            go_roundw
            case rel => exact ⟨k2 + 1, by omega, by go_num, HG.out⟩
            case measure => simp [intOf]; omega
          · obtain rfl : k2 = mk.length := by omega
            obtain ⟨r, hr⟩ : ∃ r, ((posL px.bs mk 0).any fun j => decide (idealL j px.bs = px.bs)) = r := ⟨_, rfl⟩
            have hr' : fitsL mk px.bs px.bs mk.length = r := (fits_pos _ _ _ HBz.out.once).trans hr
            go_wp2_with fail
            refine region_inv [Fact.is (.iface 73 (.pointer (some ⟨w1.heap.size + 1, 0, none⟩))), Fact.is (.slice px.A px.bs.length px.c), Fact.is (.slice px.A px.bs.length px.c), Fact.is (.bool r), Fact.is (.agg #[.slice none 0 0, .bool true, .slice Bm mk.length bm, .slice Bc mk.length bc]), Fact.is (.slice px.A px.bs.length px.c), Fact.is (.slice px.A px.bs.length px.c), Fact.is (.bool r), Fact.is (.bool false)] (by kernel_rfl) (by kernel_rfl) ⟨fun a w1 m => ?_, fun a w1 m => ?_, fun a w1 m => ?_, fun a w1 m => ?_, fun a w1 m => ?_, fun a w1 m => ?_, fun a w1 m => ?_, fun a w1 m => ?_, fun a w1 m => ?_, trivial⟩ ?_
            · exact ok_move (wanted_none rfl) (.tmp 7) rfl (m.old 7 rfl)
            · exact ok_move (wanted_none rfl) (.tmp 10) rfl (m.old 10 rfl)
            · exact ok_move (wanted_none rfl) (.tmp 10) rfl (m.old 10 rfl)
            · exact ok_invoke (wanted_none rfl) _ _ _ _ rfl _ (m.has 0 101 rfl rfl) _ (map2 (m.has 1 102 rfl rfl) (m.has 2 103 rfl rfl)) _ _ (call_idealProve _ _ _ _) ((idealProve_any _ _ _ _ _ _ _ _ _ _ _ w1 (hI.keep m.grew) hm (hT.keep m.grew) (hpx.keep m.grew) rfl (hpx.keep m.grew) rfl r hr).mono (fun e w' ⟨h1, h2⟩ => ⟨_, h1, rfl, h2⟩))
            · exact ok_loadT (wanted_none rfl) (.tmp 8) rfl _ _ _ _ _ (m.old 8 rfl) ((m.grew.block _ (Array.getElem?_eq_some_iff.1 kT).1).trans kT)
            · exact ok_move (wanted_none rfl) (.tmp 10) rfl (m.old 10 rfl)
            · exact ok_move (wanted_none rfl) (.tmp 10) rfl (m.old 10 rfl)
            · exact ok_fn (wanted_none rfl) _ _ _ rfl _ (map3 (m.has 4 105 rfl rfl) (m.has 5 106 rfl rfl) (m.has 6 107 rfl rfl)) go_refprove (refprove_any _ _ _ _ _ _ _ _ _ _ _ _ _ _ _ w1 (hTT.keep m.grew) (hpx.keep m.grew) rfl (hpx.keep m.grew) rfl) (fun e w' ⟨h1, h2⟩ => ⟨_, h1, by rw [hr']; rfl, h2⟩)
            · exact ok_boolne (wanted_none rfl) (.tmp 104) (.tmp 108) _ rfl r (m.has 3 104 rfl rfl) (m.has 7 108 rfl rfl)
            intro f w6 hg hf
            have hno : f 8 = .bool false := hf 8 (by decide)
            have HG := hideIt (below_then hgr hg)
            clear hf hg
            simp only [putAll, Nat.zero_add, Nat.reduceAdd, Act.put, List.setIfInBounds_toArray, List.set_cons_succ, List.set_cons_zero]
            rw [hno]
            clear hgr hpx hI hT hTT kT hm hr hr' k3' 
            go_wp2_with fail
            go_roundw
            case rel => exact ⟨j + 1, mk, Bm, bm, Bc, bc, ds, by omega, by omega, by go_num, HBz.out.keep HG.out⟩
            case measure => simp [intOf]; omega
end Go.Proofs.YtigocnaminkodaaDoor
