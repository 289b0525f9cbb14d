/- wicketmanlaw10.Response: the response that choices say. And what was RespGen. -/
import Derived.Test.YtolikoediafkkaaDoorRespFacts
import Derived.Test.YtolikoediafkkaaDoorRefReason
import Derived.Test.YtolikoediafkkaaDoorLetter
import Derived.Test.YtolikoediafkkaaDoorHeadLine
import Derived.Test.YtolikoediafkkaaDoorRefFillEsc
import Derived.Test.YtolikoediafkkaaDoorPairOne
import Derived.Deep.Cut
import Derived.Handy
namespace Go.Proofs.YtolikoediafkkaaDoor
open Go.ChangeShapes Go.WideShapes Go.ChangeAt Go.RowKit
set_option linter.unusedVariables false
set_option linter.unusedSimpArgs false

section
variable {ops : Array Oper} {Q : Exit → Act → World → Prop} {o : Oper} {a : Act} {w : World}
theorem ok_sliceV (hg : Region.wanted o (yielded ops a.tmps) = true) (x y : Operand) (ho : o.op = .slice 23 x (some y) none none) (p q r : Value) (h1 : a.eval x = p) (h2 : a.eval y = q) (hr : ∀ w, (Instr.slice 23 p (some q) none none).run Tryd.prog w = .ok r w) : StepOk Tryd.prog ops Q (Fact.is r) o a w := by
  refine ok_same hg _ ?_ rfl
  simp [execOp, ho, h1, h2, Instr.sliceAt, hr]
end
/-- the field that the choices from a place on say -/
def fieldC (cs : List UInt8) (j : Nat) : PairL := ([88] ++ [letC (cs.getD j 0)], escapeL (lineOf (cs.drop j)))
def fieldsC (cs : List UInt8) (j : Nat) : List PairL := (List.range j).map (fieldC cs)
theorem fieldsC_succ (cs : List UInt8) (j : Nat) : fieldsC cs (j + 1) = fieldsC cs j ++ [fieldC cs j] := by
  unfold fieldsC
  rw [List.range_succ, List.map_append]
  rfl
theorem fieldsC_len (cs : List UInt8) (j : Nat) : (fieldsC cs j).length = j := by unfold fieldsC; simp
def statC (k : Nat) : Int := if 230 < k then (k : Int) else (reasonsT.getD (k % 12) (0, [])).1
def respC (cs body : List UInt8) (k : Nat) : RespL := ⟨statC k, fieldsC cs (min cs.length 6), body⟩
set_option maxRecDepth 8000 in
set_option maxHeartbeats 4000000 in
theorem lresp_any (A : Option Addr) (cs : List UInt8) (n c : Nat) (B : Option Addr) (body : List UInt8) (m d : Nat) (k : Nat) (w : World) (hp : PieceOk w ⟨A, c, cs⟩) (hn : cs.length = n) (hq : PieceOk w ⟨B, d, body⟩) (hm : body.length = m) (hk : k < 256) :
    Calls Tryd.prog 11 #[.slice A n c, .slice B m d, .int .u8 (k : Int)] w fun e w' => ∃ fv, e = .returned (.agg #[.int .i64 (statC k), fv, .slice B m d]) ∧ POwn w.heap.size fv (fieldsC cs (min n 6)) w' ∧ Below w.heap.size w w' := by
  have hpm := hp.most
  have hpf := hp.fits
  have hpl := hp.long
  simp only at hpm hpf hpl
  have HP := hideIt hp
  have HN := hideIt hn
  have HNL := hideIt hp.nil
  obtain ⟨X, hX⟩ : ∃ X, w.alloc zeroR = X := ⟨_, rfl⟩
  have hbx : Below w.heap.size w X := by rw [← hX]; exact below_new w _
  have hzx : RCell X w.heap.size (.int .i64 0) (.slice none 0 0) (.slice none 0 0) := by rw [← hX]; exact RCell.zero w
  have HST := hideIt (refstatuses_any X)
  have BX := hideIt hbx
  have ZX := hideIt hzx
  have HX := hideIt hX
  unfold zeroR at HX
  obtain ⟨kk, hkk⟩ : ∃ kk, k % 12 = kk := ⟨_, rfl⟩
  have hki : (k : Int) % 12 = (kk : Int) := by omega
  have hk12 : kk < 12 := by omega
  obtain ⟨x, hx⟩ : ∃ x, reasonsT[kk]? = some x := ⟨_, List.getElem?_eq_getElem (by show kk < reasonsT.length; exact hk12)⟩
  obtain ⟨xs, hxs⟩ : ∃ xs, x.1 = xs := ⟨_, rfl⟩
  have HSC : Hid (statC k = if 230 < k then (k : Int) else xs) := hideIt (by unfold statC; rw [hkk]; simp [List.getD, hx, hxs])
  have HSTC := hideIt (fun w => stats_cell w kk x hx)
  have hnl : cs.length ≤ 140737488355328 := hpl
  clear hp hq hm hbx hzx hX hkk hx hpl
  go_enter Tryd.func11, Tryd.ntmps11
  go_upto_region 1 with fail
  rw [HX.out]
  go_wp2_with fail
  refine HST.out.mono ?_
  rintro e w5 ⟨rfl, rfl⟩
  have c1 := HSTC.out X
  rw [hxs] at c1
  have hbn := below_new X statsO
  have B5 := hideIt (below_then BX.out hbn)
  have Z5 := hideIt (ZX.out.keep hbn ZX.out.lt)
  clear hbn HST
  generalize hw5 : X.alloc statsO = w5 at *
  clear hw5
  go_upto_region 3 with fail
  clear hki
  have hbn := below_new w5 (.cells #[.int .i64 xs, .slice none 0 0, .slice B m d] 25)
  have B6 := hideIt (below_then B5.out hbn)
  have G6 := hideIt (RCell.new w5 (.int .i64 xs) (.slice none 0 0) (.slice B m d))
  have HG8 : Hid (w.heap.size < w5.heap.size) := hideIt Z5.out.lt
  have ZW : Hid (∀ wr, Below w5.heap.size (w5.alloc (.cells #[.int .i64 xs, .slice none 0 0, .slice B m d] 25)) wr → RCell wr w.heap.size (.int .i64 0) (.slice none 0 0) (.slice none 0 0)) := hideIt fun wr hb => (Z5.out.keep hbn Z5.out.lt).keep hb Z5.out.lt
  have BW : Hid (∀ wr, Below w5.heap.size (w5.alloc (.cells #[.int .i64 xs, .slice none 0 0, .slice B m d] 25)) wr → Below w.heap.size w wr) := hideIt fun wr hb => B6.out.trans (hb.mono (by have := HG8.out; omega))
  clear hbn c1 HSTC
  generalize w5.alloc (.cells #[.int .i64 xs, .slice none 0 0, .slice B m d] 25) = Y at *
  generalize w5.heap.size = g8 at *
  go_wp2_with fail
  go_loopw [9] (fun iv wr => ∃ j : Nat, j ≤ n ∧ j ≤ 6 ∧ iv = .int .i64 (j : Int) ∧ (∃ v, RCell wr g8 (.int .i64 xs) v (.slice B m d) ∧ POwn (g8 + 1) v (fieldsC cs j) wr) ∧ Below g8 Y wr) (fun iv wr => n - (intOf iv).toNat)
  case atStart => exact ⟨0, by omega, by omega, rfl, ⟨_, G6.out, POwn.nil _ _⟩, Below.refl _ _⟩
  case round =>
    obtain ⟨j, hj, hj6, rfl, ⟨v, hgc, hov⟩, hbr⟩ := hrel
    have HG := hideIt hgc
    have HO := hideIt hov
    have BR := hideIt hbr
    have HGW : Hid (g8 + 1 ≤ wr.heap.size) := hideIt hgc.lt
    have BRW := hideIt (BW.out wr hbr)
    clear hgc hov hbr
    have hwj : IntKind.i64.wrap ((j : Int) + 1) = (j : Int) + 1 := IntWalk.i64_in _ (by omega)
    by_cases hlt : j < n ∧ j < 6
    · obtain ⟨hl1, hl2⟩ := hlt
      have hji : (j : Int) < (n : Int) := by omega
      have hji2 : (j : Int) < 6 := by omega
      have hcj : j < cs.length := by rw [hn]; exact hl1
      have HQL : Hid (g8 < wr.heap.size) := hideIt (by have := HGW.out; omega)
      have HC1 := hideIt HG.out.c1
      obtain ⟨A1, s1, s2, _, s4⟩ := slice_lo A n c j (by omega) (by omega) HNL.out
      have hdl : (cs.drop j).length = n - j := by rw [List.length_drop, hn]
      have HPJ : Hid (∀ w1, Below wr.heap.size wr w1 → PieceOk w1 ⟨A1, c - j, cs.drop j⟩) := hideIt fun w1 hb => by
        have hp := (HP.out.keep BRW.out).keep hb
        exact ⟨s2 w1 _ cs hn hp.bytes, by simp only; rw [hdl]; omega, by simp only; omega, by simp only; rw [hdl]; omega, s4⟩
      have HLN := hideIt (fun w1 (hb : Below wr.heap.size wr w1) => hline_any A1 (cs.drop j) (n - j) (c - j) w1 (HPJ.out w1 hb) hdl (by omega))
      have HES := hideIt (fun w1 => refesc_any (lineOf (cs.drop j)) w1 (by have := lineOf_len (cs.drop j); omega))
      have HS1 := hideIt s1
      obtain ⟨b, off, rfl, hlt2, hc⟩ := (HP.out.keep BRW.out).bytes (by simp only; omega)
      have HCE := hideIt (hc j (by simp only; exact hcj))
      have HBL := hideIt hlt2
      obtain ⟨e, he⟩ : ∃ e, cs[j] = e := ⟨_, rfl⟩
      have hge : cs.getD j 0 = e := by simp [List.getD, hcj, he]
      have HFC : Hid (fieldC cs j = ([88] ++ [letC e], escapeL (lineOf (cs.drop j)))) := hideIt (by unfold fieldC; rw [hge])
      simp only [he] at HCE
      have hx256 : e.toNat < 256 := e.toNat_lt
      have HLC := hideIt (letC_nat e)
      clear s1 s2 s4 hc hdl he hge hlt2
      generalize letC e = cc at *
      generalize hxp : e.toNat = xn at *
      clear hxp
      obtain ⟨p, hp⟩ : ∃ p, xn % 26 = p := ⟨_, rfl⟩
      have HP26 := hideIt hp
      have hp100 : p < 100 := by omega
      have HC97 : Hid (cc.toNat = 97 + p) := hideIt (by rw [HLC.out, hp])
      clear hp HLC
      generalize hL : lineOf (cs.drop j) = L at *
      generalize hE : escapeL L = E at *
      clear hL hE
      have DS := hideIt (fieldsC_succ cs j)
      have hdn := fieldsC_len cs j
      generalize fieldsC cs j = done at *
      generalize n - j = nj at *
      generalize c - j = cj at *
      go_upto_region 6 with fail
      refine region_tail 18 [Fact.is (.pointer (some ⟨g8, 0 + 1, none⟩)), Fact.is (v), Fact.is (.slice (some ⟨b, off, none⟩) n c), Fact.is (.int .i64 ((j : Nat) : Int)), Fact.is (.pointer (some ⟨b, off + j, none⟩)), Fact.is (.int .u8 ((xn : Nat) : Int)), Fact.is (.int .u8 ((p : Nat) : Int)), Fact.is (.int .u8 ((cc.toNat : Nat) : Int)), Fact.piece ([cc]), Fact.str ([cc]), Fact.str ([88] ++ [cc]), Fact.is (.slice (some ⟨b, off, none⟩) n c), Fact.is (.int .i64 ((j : Nat) : Int)), Fact.is (.slice A1 nj cj), Fact.str (L), Fact.str (E), Fact.is (.agg #[.string (strOf ([88] ++ [cc])), .string (strOf E)]), Fact.prs [([88] ++ [cc], E)]] (by kernel_rfl) (by kernel_rfl) (by kernel_rfl) ⟨fun a w1 m => ?_, fun a w1 m => ?_, fun a w1 m => ?_, fun a w1 m => ?_, fun a w1 m => ?_, fun a w1 m => ?_, fun a w1 m => ?_, fun a w1 m => ?_, fun a w1 m => ?_, fun a w1 m => ?_, fun a w1 m => ?_, fun a w1 m => ?_, fun a w1 m => ?_, fun a w1 m => ?_, fun a w1 m => ?_, fun a w1 m => ?_, fun a w1 m => ?_, fun a w1 m => ?_, trivial⟩ ?_
      · exact ok_fieldR1 (wanted_none rfl) (.tmp 8) rfl g8 0 (m.old 8 rfl)
      · exact ok_loadPv (wanted_none rfl) (.tmp 31) rfl ⟨g8, 0 + 1, none⟩ _ (m.has 0 31 rfl rfl) ((m.grew.cell (p := ⟨g8, 0 + 1, none⟩) HQL.out).trans HC1.out)
      · exact ok_move (wanted_none rfl) (.tmp 0) rfl (m.old 0 rfl)
      · exact ok_move (wanted_none rfl) (.tmp 9) rfl (m.old 9 rfl)
      · exact ok_index (wanted_none rfl) (.tmp 33) (.tmp 34) rfl b off n c j (m.has 2 33 rfl rfl) (m.has 3 34 rfl rfl) hl1
      · exact ok_loadb (wanted_none rfl) (.tmp 35) rfl ⟨b, off + j, none⟩ _ (m.has 4 35 rfl rfl) ((m.grew.cell (p := ⟨b, off + j, none⟩) HBL.out).trans HCE.out)
      · exact ok_bin (wanted_none rfl) _ _ _ (.tmp 36) _ rfl _ _ _ (m.has 5 36 rfl rfl) (rfl) rfl (run_rem26b xn p hx256 HP26.out)
      · exact ok_bin (wanted_none rfl) _ _ _ _ (.tmp 37) rfl _ _ _ (rfl) (m.has 6 37 rfl rfl) rfl (run_add97b p cc hp100 HC97.out)
      · exact ok_buildB1 (wanted_none rfl) (.tmp 38) rfl cc (m.has 7 38 rfl rfl)
      · exact ok_str (wanted_none rfl) (.tmp 39) rfl _ (m.has 8 39 rfl rfl)
      · exact ok_strcat (wanted_none rfl) _ (.tmp 40) _ rfl _ _ _ (rfl) (m.has 9 40 rfl rfl) (by simp) (rfl)
      · exact ok_move (wanted_none rfl) (.tmp 0) rfl (m.old 0 rfl)
      · exact ok_move (wanted_none rfl) (.tmp 9) rfl (m.old 9 rfl)
      · exact ok_sliceV (wanted_none rfl) (.tmp 42) (.tmp 43) rfl _ _ _ (m.has 11 42 rfl rfl) (m.has 12 43 rfl rfl) HS1.out
      · exact ok_fn (wanted_none rfl) _ _ _ rfl _ (map1 (m.has 13 44 rfl rfl)) go_hline (HLN.out w1 m.grew) (fun e w' ⟨h1, h2⟩ => ⟨_, h1, rfl, h2⟩)
      · exact ok_fn (wanted_none rfl) _ _ _ rfl _ (map1 (m.has 14 45 rfl rfl)) go_refesc (HES.out w1) (fun e w' ⟨h1, h2⟩ => ⟨_, h1, rfl, h2⟩)
      · exact ok_structP (wanted_none rfl) (.tmp 41) (.tmp 46) rfl (strOf ([88] ++ [cc])) (strOf E) (m.has 10 41 rfl rfl) (m.has 15 46 rfl rfl)
      · exact ok_rowPair (wanted_none rfl) (.tmp 47) rfl ([88] ++ [cc], E) (m.has 16 47 rfl rfl)
      intro f w6 hg6 hf
      have f0 : f 1 = v := hf 1 (by decide)
      obtain ⟨A7, c7, h7, l7, m7, n7, p7⟩ := (show PairsV (f 17) [([88] ++ [cc], E)] w6 from hf 17 (by decide)).form
      have o6 := HO.out.keep hg6
      have BY6 := below_thenB BR.out (by have := HGW.out; omega) hg6
      have g6' := HG.out.keep hg6 HG.out.lt
      simp only [List.take, List.drop, putAll, Act.put, List.setIfInBounds_toArray, List.set_cons_succ, List.set_cons_zero]
      refine wpList_appP rfl (.tmp 32) (.tmp 48) rfl (g8 + 1) v done f0 o6 A7 c7 [([88] ++ [cc], E)] h7 n7 p7 (by simp; omega) (by exact g6'.lt) ?_
      intro v7 w7 o7 g7
      have O7 : POwn (g8 + 1) v7 (fieldsC cs (j + 1)) w7 := by rw [DS.out, HFC.out]; exact o7
      have B7 : Below g8 Y w7 := BY6.grown g7 (by have := g6'.lt; omega) (fun kq hk => by have := (o6.lt kq hk).1; omega)
      have G7 : RCell w7 g8 (.int .i64 xs) v (.slice B m d) := (g7.block g8 g6'.lt (fun e => by have := (o6.lt _ e.symm).1; omega)).trans g6'
      have f1 := G7.fz 1
      have k1' := G7.c1
      obtain ⟨wA, wc, hv7, _, _, _, _⟩ := O7.open
      have GS := hideIt (G7.set1 v7)
      have BS : Hid (Below g8 Y (w7.setCell ⟨g8, 1, none⟩ v7)) := hideIt (B7.setCell (by exact Nat.le_refl _) v7)
      have OS : Hid (POwn (g8 + 1) v7 (fieldsC cs (j + 1)) (w7.setCell ⟨g8, 1, none⟩ v7)) := hideIt (O7.block fun kq hk => heap_setCell_past _ _ _ _ _ (fun e => by have := (O7.lt kq hk).1; omega))
      subst hv7
      clear o7 g7 o6 p7 hf hg6 g6' BY6 O7 B7 G7 h7 f0
      generalize (fieldsC cs (j + 1)).length = pl at *
      simp only [Nat.zero_add, Nat.reduceAdd]
      go_wp2_with fail
      go_roundw
      case rel => exact ⟨j + 1, by omega, by omega, by go_num, ⟨_, GS.out, OS.out⟩, BS.out⟩
      case measure => simp [intOf]; omega
    · have hmin : min n 6 = j := by omega
      have HMN := hideIt hmin
      have hex : (¬ (j : Int) < (n : Int)) ∨ ((j : Int) < (n : Int) ∧ ¬ (j : Int) < 6) := by omega
      obtain ⟨vA, vc, rfl, _, _, _, _⟩ := HO.out.open
      have ZZ := hideIt (ZW.out wr (BR.out))
      clear hmin hlt
      generalize hfl : (fieldsC cs j).length = fl at *
      clear hfl
      rcases hex with hA | ⟨hA, hB⟩
      all_goals
        by_cases h230 : 230 < k
        · have h230i : (230 : Int) < (k : Int) := by omega
          have HSK : Hid (statC k = (k : Int)) := hideIt (by rw [HSC.out, if_pos h230])
          have W1B : Below g8 Y (wr.setCell ⟨g8, 0, none⟩ (.int .i64 (k : Int))) := BR.out.setCell (by exact Nat.le_refl _) _
          have G1 : Hid (RCell (wr.setCell ⟨g8, 0, none⟩ (.int .i64 (k : Int))) g8 (.int .i64 (k : Int)) (.slice vA fl vc) (.slice B m d)) := hideIt (HG.out.set0 _)
          have Z1 := hideIt (ZW.out _ W1B)
          have B1 := hideIt (BW.out _ W1B)
          have O1 : Hid (POwn (g8 + 1) (.slice vA fl vc) (fieldsC cs j) (wr.setCell ⟨g8, 0, none⟩ (.int .i64 (k : Int)))) := hideIt (HO.out.block fun kq hk => heap_setCell_past _ _ _ _ _ (fun e => by have := (HO.out.lt kq hk).1; omega))
          have e0 := HG.out.c0
          have ef := HG.out.fz 0
          clear W1B
          have q0 := Z1.out.fz 0
          have q1 := Z1.out.fz 1
          have q2 := Z1.out.fz 2
          have k0 := Z1.out.c0
          have k1 := Z1.out.c1
          have k2 := Z1.out.c2
          have d0 := G1.out.c0
          have d1 := G1.out.c1
          have d2 := G1.out.c2
          have ZS := hideIt (Z1.out.set (.int .i64 (k : Int)) (.slice vA fl vc) (.slice B m d))
          have BS := hideIt (below_setR B1.out (Nat.le_refl _) (.int .i64 (k : Int)) (.slice vA fl vc) (.slice B m d))
          have GS := grown_setR (wr.setCell ⟨g8, 0, none⟩ (.int .i64 (k : Int))) w.heap.size (.int .i64 (k : Int)) (.slice vA fl vc) (.slice B m d)
          have OS := hideIt ((O1.out.block fun i hi => GS.block i (O1.out.lt i hi).2 (fun e => by cases e; have := (O1.out.lt _ hi).1; have := HG8.out; omega)).base (show w.heap.size ≤ g8 + 1 by have := HG8.out; omega))
          clear GS
          go_wp2_with fail
          (try simp only [Exit.inBlock, Exit.then])
          refine bodyPost_ret (results_R Tryd.results11 _ _ w.heap.size (.int .i64 (k : Int)) (.slice vA fl vc) (.slice B m d) rfl (by exact ZS.out)) rfl ?_
          exact ⟨.slice vA fl vc, by rw [HSK.out], by rw [HMN.out]; exact OS.out, BS.out⟩
        · have h230i : ¬ (230 : Int) < (k : Int) := by omega
          have HSK : Hid (statC k = xs) := hideIt (by rw [HSC.out, if_neg h230])
          have G1 := hideIt HG.out
          have Z1 := hideIt ZZ.out
          have B1 := hideIt BRW.out
          have O1 := hideIt HO.out
          have q0 := Z1.out.fz 0
          have q1 := Z1.out.fz 1
          have q2 := Z1.out.fz 2
          have k0 := Z1.out.c0
          have k1 := Z1.out.c1
          have k2 := Z1.out.c2
          have d0 := G1.out.c0
          have d1 := G1.out.c1
          have d2 := G1.out.c2
          have ZS := hideIt (Z1.out.set (.int .i64 xs) (.slice vA fl vc) (.slice B m d))
          have BS := hideIt (below_setR B1.out (Nat.le_refl _) (.int .i64 xs) (.slice vA fl vc) (.slice B m d))
          have GS := grown_setR wr w.heap.size (.int .i64 xs) (.slice vA fl vc) (.slice B m d)
          have OS := hideIt ((O1.out.block fun i hi => GS.block i (O1.out.lt i hi).2 (fun e => by cases e; have := (O1.out.lt _ hi).1; have := HG8.out; omega)).base (show w.heap.size ≤ g8 + 1 by have := HG8.out; omega))
          clear GS
          go_wp2_with fail
          (try simp only [Exit.inBlock, Exit.then])
          refine bodyPost_ret (results_R Tryd.results11 _ _ w.heap.size (.int .i64 xs) (.slice vA fl vc) (.slice B m d) rfl (by exact ZS.out)) rfl ?_
          exact ⟨.slice vA fl vc, by rw [HSK.out], by rw [HMN.out]; exact OS.out, BS.out⟩
theorem go_lresp : goFn Tryd.prog 11 = true := by kernel_rfl
end Go.Proofs.YtolikoediafkkaaDoor

/- What RespBack asks, of lists. -/
namespace Go.Proofs.YtolikoediafkkaaDoor
set_option linter.unusedVariables false
set_option linter.unusedSimpArgs false

/-- bytes that stay in a value as they are -/
def fineV (c : UInt8) : Bool := !blankB c && valB c
theorem esc_fineV (l : List UInt8) : (escapeL l).all fineV = true := by
  have H : ∀ k : Fin 256, (escF (UInt8.ofNat k.val)).all fineV = true := by decide +kernel
  unfold escapeL
  rw [List.all_eq_true]
  intro c hc
  obtain ⟨d, _, hd⟩ := List.mem_flatMap.1 hc
  have := H ⟨d.toNat, d.toNat_lt⟩
  simp only [UInt8.ofNat_toNat] at this
  exact List.all_eq_true.1 this c hd
theorem value_fine {l : List UInt8} (h : l.all fineV = true) : valueL l = true := by
  have hh : ∀ c ∈ l, blankB c = false ∧ valB c = true := fun c hc => by
    have := List.all_eq_true.1 h c hc
    unfold fineV at this
    simpa using this
  unfold valueL
  rw [Bool.and_eq_true, decide_eq_true_eq]
  refine ⟨List.all_eq_true.2 fun c hc => (hh c hc).2, (trim_fix l).2 ?_⟩
  cases l with
  | nil => exact Or.inl rfl
  | cons a r => exact Or.inr ⟨⟨a, rfl, (hh a (by simp)).1⟩, (a :: r).getLast (by simp), List.getLast?_eq_some_getLast (by simp), (hh _ (List.getLast_mem (by simp))).1⟩
theorem letC_tok (c : UInt8) : tokenL [88, letC c] = true := by
  have H : ∀ k : Fin 256, tokenL [88, letC (UInt8.ofNat k.val)] = true := by decide +kernel
  have := H ⟨c.toNat, c.toNat_lt⟩
  simpa only [UInt8.ofNat_toNat] using this
theorem fieldC_ok (cs : List UInt8) (j : Nat) : (printF (fieldC cs j)).2 = 0 := by
  have h1 : okP (fieldC cs j) = true := by
    unfold okP fieldC
    rw [Bool.and_eq_true]
    exact ⟨letC_tok _, value_fine (esc_fineV _)⟩
  have h2 := escapeL_len (lineOf (cs.drop j))
  have h3 := lineOf_len (cs.drop j)
  unfold printF
  rw [if_pos h1, if_neg (by unfold lineL fieldC; simp; omega)]
theorem fieldC_small (cs : List UInt8) (j : Nat) : ∀ p ∈ fieldsC cs j, p.1.length ≤ 400000 ∧ p.2.length ≤ 400000 := by
  intro p hp
  unfold fieldsC at hp
  obtain ⟨i, _, rfl⟩ := List.mem_map.1 hp
  have h2 := escapeL_len (lineOf (cs.drop i))
  have h3 := lineOf_len (cs.drop i)
  unfold fieldC
  exact ⟨by simp, by simp only; omega⟩
theorem fieldsC_fine (cs : List UInt8) (j : Nat) : badF (fieldsC cs j) = none := badF_all fun y hy => by
  unfold fieldsC at hy
  obtain ⟨i, _, rfl⟩ := List.mem_map.1 hy
  exact fieldC_ok cs i
theorem reason_all : ∀ x ∈ reasonsT, reasonL x.1 ≠ [] := by decide +kernel
theorem stat_low {k : Nat} (h : ¬ 230 < k) : reasonL (statC k) ≠ [] := by
  unfold statC
  rw [if_neg h]
  have hk : k % 12 < reasonsT.length := by show k % 12 < 12; omega
  have e : reasonsT.getD (k % 12) (0, []) = reasonsT[k % 12] := by simp [List.getD, hk]
  rw [e]
  exact reason_all _ (List.getElem_mem hk)
theorem back_ok (cs body : List UInt8) (k m : Nat) (h : ¬ 230 < k) (hm : m ≤ 6) (hb : body.length ≤ 4000) : printR ⟨statC k, fieldsC cs m, body⟩ = (textR ⟨statC k, fieldsC cs m, body⟩, 0) := by
  have hl := fieldsC_len cs m
  unfold printR
  rw [if_neg (show ¬ reasonL (RespL.mk (statC k) (fieldsC cs m) body).status = [] from stat_low h), if_neg (by simp only; omega)]
  simp only
  rw [fieldsC_fine]
theorem leng_inj {n m : Nat} (h : lengLine n = lengLine m) : n = m := by
  unfold lengLine at h
  have := List.append_cancel_left h
  have h1 := (digL_facts n).2.1
  have h2 := (digL_facts m).2.1
  rw [← h1, ← h2, this]
/-- no response's bytes go on behind another's -/
theorem text_only {r r' : RespL} (h : (printR r).2 = 0) (h' : (printR r').2 = 0) {q : List UInt8} (e : textR r = textR r' ++ q) : q = [] := by
  have e1 : linesL (textR r) = some (headR r, r.body) := by unfold textR; exact lines_join _ _ (head_fine h)
  have e2 : linesL (textR r) = some (headR r', r'.body ++ q) := by
    rw [e]
    unfold textR
    rw [List.append_assoc (linesJ (headR r') ++ crlf)]
    exact lines_join _ _ (head_fine h')
  rw [e1] at e2
  simp only [Option.some.injEq, Prod.mk.injEq] at e2
  obtain ⟨a1, a2⟩ := e2
  have a3 : (headR r).getLast? = (headR r').getLast? := by rw [a1]
  have g : ∀ r : RespL, (headR r).getLast? = some (lengLine r.body.length) := fun r => by
    unfold headR
    rw [show firstR r.status :: (r.fs.map lineP ++ [lengLine r.body.length]) = (firstR r.status :: r.fs.map lineP) ++ [lengLine r.body.length] from rfl, List.getLast?_concat]
  rw [g, g] at a3
  have a4 := leng_inj (Option.some.inj a3)
  have a5 := congrArg List.length a2
  rw [List.length_append] at a5
  exact List.eq_nil_of_length_eq_zero (by omega)
theorem parse_of_print {b : List UInt8} (h : (parseR b).2 = 0) : ∃ r, (printR r).2 = 0 ∧ textR r = b := by
  obtain ⟨h1, h2⟩ := parseR_ok h
  exact ⟨_, h1, by rw [← (printR_ok h1).2.2.2.2]; exact h2⟩
theorem parse_more {r : RespL} (h : (printR r).2 = 0) (x : UInt8) : parseR (textR r ++ [x]) = (RespZ, 10) := by
  by_cases hp : (parseR (textR r ++ [x])).2 = 0
  · obtain ⟨r', h1, h2⟩ := parse_of_print hp
    have := text_only h1 h h2
    cases this
  · exact parseR_zero hp
theorem parse_less {r : RespL} (h : (printR r).2 = 0) {n : Nat} (hn : n < (textR r).length) : parseR ((textR r).take n) = (RespZ, 10) := by
  by_cases hp : (parseR ((textR r).take n)).2 = 0
  · obtain ⟨r', h1, h2⟩ := parse_of_print hp
    have e : textR r = textR r' ++ (textR r).drop n := by rw [h2, List.take_append_drop]
    have := text_only h h1 e
    have := congrArg List.length this
    rw [List.length_drop] at this
    simp at this
    omega
  · exact parseR_zero hp
end Go.Proofs.YtolikoediafkkaaDoor
