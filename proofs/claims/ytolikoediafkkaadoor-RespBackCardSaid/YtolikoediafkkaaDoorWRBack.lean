/- The walk of RespBack. -/
import Derived.Test.YtolikoediafkkaaDoorRespBk
import Derived.Test.YtolikoediafkkaaDoorRespKnown
import Derived.Test.YtolikoediafkkaaDoorRespLaid
import Derived.Test.YtolikoediafkkaaDoorRespParsed
import Derived.Test.YtolikoediafkkaaDoorRespSame
import Derived.Deep.Cut
namespace Go.Proofs.YtolikoediafkkaaDoor
open Go.ChangeShapes Go.WideShapes Go.ChangeAt Go.RowKit
set_option linter.unusedVariables false
set_option linter.unusedSimpArgs false

theorem piece_own {w : World} {B n : Nat} {v : Value} {xs : List UInt8} (h : w.ownsRow B 5 1 v n (cellsOf xs)) (hn : xs.length = n) (hl : n ≤ 140737488355328) : ∃ A c, v = .slice A n c ∧ PieceOk w ⟨A, c, xs⟩ ∧ n ≤ c := by
  obtain ⟨A, c, rfl, _, h3, h4, h5, h6⟩ := own_open h
  exact ⟨A, c, rfl, ⟨h6, by simp only; omega, by unfold maxLen at h4; exact h4, by simp only; omega, h5⟩, by omega⟩
set_option maxRecDepth 8000 in
set_option maxHeartbeats 8000000 in
theorem respBack_walk (a0 : Option Addr) (len0 cap0 : Nat) (z0 : List Int) (a1 : Option Addr) (len1 cap1 : Nat) (z1 : List Int) (a2 : Int) (a3 : Int) (w : World) (w0 : IsRow .u8 w a0 len0 cap0 z0) (w1 : IsRow .u8 w a1 len1 cap1 z1) (w2 : (Lit.int .u8 a2).wf = true) (w3 : (Lit.int .u16 a3).wf = true) (hT : Tabs w) (r0 : cap0 ≤ 140737488355328) (r1 : cap1 ≤ 140737488355328) :
    Calls Tryd.prog 5 #[.slice a0 len0 cap0, .slice a1 len1 cap1, .int .u8 a2, .int .u16 a3] w fun e w' => e = .returned (.bool true) ∧ Below w.heap.size w w' := by
  obtain ⟨hm, hpow⟩ := hT
  obtain ⟨_, _, hlc0, _⟩ := w0.bytes
  obtain ⟨_, _, hlc1, _⟩ := w1.bytes
  obtain ⟨cs, hcl, _, hcp⟩ := row_piece w0 (by omega)
  obtain ⟨bd, hbl, _, hbp⟩ := row_piece w1 (by omega)
  have hb2 := bounds_u8 w2
  have hb3 := bounds_u16 w3
  obtain ⟨k, rfl⟩ : ∃ k : Nat, a2 = (k : Int) := ⟨a2.toNat, by omega⟩
  obtain ⟨at_, rfl⟩ : ∃ at_ : Nat, a3 = (at_ : Int) := ⟨a3.toNat, by omega⟩
  have HBP := hideIt hbp
  have HBL := hideIt hbl
  have HCP := hideIt hcp
  have HCL := hideIt hcl
  have HPW := hideIt hpow
  have HM := hideIt hm
  have HK := hideIt (fun w' (hb : Below w.heap.size w w') => known10_any w' (hpow.keep hb))
  clear w0 w1 w2 w3 hm hpow hbp hcp hbl hcl z0 z1
  by_cases h300 : 300 < len1
  · have h1 : (300 : Int) < (len1 : Int) := by omega
    go_enter Tryd.func5, Tryd.ntmps5
    go_wp2_with fail
    refine (HK.out _ (Below.refl _ _)).mono ?_
    rintro e u1 ⟨rfl, hb⟩
    have B1 := hideIt hb
    clear hb
    go_wp2_with fail
    go_ret
    exact ⟨rfl, B1.out⟩
  have h1 : ¬ (300 : Int) < (len1 : Int) := by omega
  have HL1 : Hid (len1 ≤ 300) := hideIt (by omega)
  obtain ⟨kk, hkk⟩ : ∃ kk, k % 200 = kk := ⟨_, rfl⟩
  have hki : (k : Int) % 200 = (kk : Int) := by omega
  have hk2 : kk < 200 := by omega
  clear h300 r0 r1 hkk
  have HLR0 := hideIt (lresp_any a0 cs len0 cap0 a1 bd len1 cap1 kk w HCP.out HCL.out HBP.out HBL.out (by omega))
  obtain ⟨st, hst⟩ : ∃ st, statC kk = st := ⟨_, rfl⟩
  obtain ⟨fs, hfs⟩ : ∃ fs, fieldsC cs (min len0 6) = fs := ⟨_, rfl⟩
  have HFSM : Hid (∀ p ∈ fs, p.1.length ≤ 400000 ∧ p.2.length ≤ 400000) := hideIt (by rw [← hfs]; exact fieldC_small _ _)
  have HFL : Hid (fs.length ≤ 6) := hideIt (by rw [← hfs, fieldsC_len]; omega)
  have HPO : Hid (printR ⟨st, fs, bd⟩ = (textR ⟨st, fs, bd⟩, 0)) := hideIt (by rw [← hst, ← hfs]; exact back_ok cs bd kk _ (by omega) (by omega) (by rw [HBL.out]; have := HL1.out; omega))
  have hok : (printR ⟨st, fs, bd⟩).2 = 0 := by rw [HPO.out]
  have HPB : Hid (parseR (textR ⟨st, fs, bd⟩) = (⟨st, fs, bd⟩, 0)) := hideIt (by have := parseR_back hok; rw [HPO.out] at this; exact this)
  have HPM : Hid (parseR (textR ⟨st, fs, bd⟩ ++ [120]) = (RespZ, 10)) := hideIt (parse_more hok 120)
  have HPL := hideIt (fun n (hn : n < (textR ⟨st, fs, bd⟩).length) => parse_less hok hn)
  have HTL : Hid ((textR ⟨st, fs, bd⟩).length ≤ 90000) := hideIt (text_len hok)
  have HTP : Hid (1 ≤ (textR ⟨st, fs, bd⟩).length) := hideIt (by
    unfold textR
    rw [List.length_append, List.length_append]
    simp [crlf]
    omega)
  rw [hst, hfs] at HLR0
  clear hst hfs hok
  go_enter Tryd.func5, Tryd.ntmps5
  go_wp2_with fail
  refine HLR0.out.mono ?_
  rintro e u1 ⟨fv, rfl, hfo, hb⟩
  obtain ⟨FA, fc, rfl, _, _, _, _⟩ := hfo.open
  obtain ⟨fl, hfl⟩ : ∃ fl, fs.length = fl := ⟨_, rfl⟩
  have HFN := hideIt hfl
  rw [hfl] at hfo ⊢
  have hbn := below_new u1 (.cells #[.int .i64 st, .slice FA fl fc, .slice a1 len1 cap1] 25)
  have B1 := hideIt (below_then hb hbn)
  have G1 := hideIt (RCell.new u1 (.int .i64 st) (.slice FA fl fc) (.slice a1 len1 cap1))
  have F1 := hideIt (hfo.keep hbn)
  clear hfo hb hbn HLR0 hki h1 hfl
  go_upto_region 4 with fail
  generalize u1.alloc (.cells #[.int .i64 st, .slice FA fl fc, .slice a1 len1 cap1] 25) = Y at *
  generalize u1.heap.size = g9 at *
  have HP1 := hideIt (rprint_any ⟨st, fs, bd⟩ (.slice FA fl fc) a1 cap1 Y ⟨F1.out.reads, HBP.out.keep B1.out⟩ (fun _ p hp => HFSM.out p hp) (HPW.out.keep B1.out))
  unfold PrintRPost respV at HP1
  rw [HPO.out] at HP1
  simp only [HBL.out] at HP1
  obtain ⟨T, hTT⟩ : ∃ T, textR ⟨st, fs, bd⟩ = T := ⟨_, rfl⟩
  rw [hTT] at HP1 HPB HPM HPL HTL HTP
  clear hTT HPO
  obtain ⟨tn, htn⟩ : ∃ tn, T.length = tn := ⟨_, rfl⟩
  rw [htn] at HP1 HPL HTL HTP
  have HTN := hideIt htn
  clear htn
  have d0 := G1.out.c0
  have d1 := G1.out.c1
  have d2 := G1.out.c2
  go_wp2_with fail
  refine HP1.out.mono ?_
  rintro e u2 ⟨A2, c2, rfl, hpp, _, hb⟩
  have B2 := hideIt (below_then B1.out hb)
  have G2 := hideIt (G1.out.keep hb G1.out.lt)
  have F2 := hideIt (F1.out.keep hb)
  have P2 := hideIt hpp
  clear hpp hb HP1 d0 d1 d2 G1 F1
  have HP2 := hideIt (rparse_any A2 T tn c2 u2 P2.out HTN.out (by have := HTL.out; omega) (HM.out.keep B2.out) (HPW.out.keep B2.out))
  unfold ParseRPost respV at HP2
  rw [HPB.out] at HP2
  simp only [HBL.out] at HP2
  go_wp2_with fail
  refine HP2.out.mono ?_
  rintro e u3 ⟨fv2, A3, c3, rfl, hnew, hb⟩
  obtain ⟨FB, fd, rfl, _, _, _, _⟩ := hnew.fields.open
  have hnp := hnew.parts
  have hfl2 : (⟨st, fs, bd⟩ : RespL).fs.length = fl := HFN.out
  rw [hfl2] at hnp ⊢
  have hbn := below_new u3 (.cells #[.int .i64 st, .slice FB fl fd, .slice A3 len1 c3] 25)
  have B3 := hideIt (below_then (below_then B2.out hb) hbn)
  have G3 := hideIt (RCell.new u3 (.int .i64 st) (.slice FB fl fd) (.slice A3 len1 c3))
  have N3 := hideIt (hnp.keep hbn)
  have G2' := hideIt ((G2.out.keep hb G2.out.lt).keep hbn (G2.out.keep hb G2.out.lt).lt)
  have F3 := hideIt ((F2.out.keep hb).keep hbn)
  have P3 := hideIt ((P2.out.keep hb).keep hbn)
  clear hnew hnp hfl2 hb hbn HP2 G2 F2
  go_upto_region 6 with fail
  generalize u3.alloc (.cells #[.int .i64 st, .slice FB fl fd, .slice A3 len1 c3] 25) = Z at *
  generalize u3.heap.size = g12 at *
  have HSA := hideIt (refrsame_any ⟨st, fs, bd⟩ ⟨st, fs, bd⟩ (.slice FA fl fc) (.slice FB fl fd) a1 A3 cap1 c3 Z ⟨F3.out.reads, HBP.out.keep B3.out⟩ N3.out (by have := HFL.out; simp only; omega))
  rw [sameR_refl] at HSA
  unfold respV at HSA
  simp only [HBL.out] at HSA
  have d0 := G2'.out.c0
  have d1 := G2'.out.c1
  have d2 := G2'.out.c2
  have e0 := G3.out.c0
  have e1 := G3.out.c1
  have e2 := G3.out.c2
  go_wp2_with fail
  refine HSA.out.mono ?_
  rintro e u4 ⟨rfl, hb⟩
  have B4 := hideIt (below_then B3.out hb)
  have P4 := hideIt (P3.out.keep hb)
  clear hb d0 d1 d2 e0 e1 e2 HSA G2' G3 N3 F3 P2 P3
  have hnil0 : u4.ownsRow u4.heap.size 5 1 (.slice none 0 0) 0 (cellsOf []) := ⟨rfl, Or.inl ⟨rfl, rfl⟩⟩
  go_wp2_with (at_builtin; refine wpList_app rfl (.tmp 50) (.tmp 51) rfl u4.heap.size (.slice none 0 0) 0 [] rfl hnil0 A2 tn c2 _ T rfl HTN.out P4.out.nil P4.out.bytes (by have := HTL.out; omega) (Nat.le_refl _) ?_)
  intro v5 w5 o5 g5
  have hb5 : Below u4.heap.size u4 w5 := (Below.refl _ _).grown g5 (Nat.le_refl _) (fun kq hk => by simp [Value.ownBlock] at hk)
  have hbn := below_new w5 (.cells #[.int .u8 120] 5)
  have B45 := hideIt (below_then hb5 hbn)
  have o5' : (w5.alloc (.cells #[.int .u8 120] 5)).ownsRow u4.heap.size 5 1 v5 tn (cellsOf T) := by
    rcases o5.2 with h0 | ⟨kq, cap, cur, rfl, e1, e2, e3⟩
    · exact ⟨o5.1, Or.inl h0⟩
    · exact ⟨o5.1, Or.inr ⟨kq, cap, cur, rfl, e1, (hbn.block kq (Array.getElem?_eq_some_iff.1 e2).1).trans e2, e3⟩⟩
  have hx1 : PieceOk (w5.alloc (.cells #[.int .u8 120] 5)) ⟨some ⟨w5.heap.size, 0, none⟩, 1, [120]⟩ := piece_lit _ w5.heap.size #[.int .u8 120] 5 [120] 1 (0, 0) (heap_alloc_new w5 _) rfl (by simp) (by omega)
  have hsz5 : u4.heap.size ≤ (w5.alloc (.cells #[.int .u8 120] 5)).heap.size := by rw [alloc_size]; have := hb5.size; omega
  have O5 := hideIt o5'
  have X5 := hideIt hx1
  obtain ⟨VA, vc, hv5, _, _⟩ := piece_own o5' HTN.out (by have := HTL.out; omega)
  subst hv5
  clear o5 g5 o5' hx1 hb5 hbn hnil0
  go_wp2_with (at_builtin; refine wpList_app rfl (.tmp 53) (.tmp 54) rfl u4.heap.size (.slice VA tn vc) tn T rfl O5.out (some ⟨w5.heap.size, 0, none⟩) 1 1 _ [120] rfl rfl (fun h => by cases h) X5.out.bytes (by have := HTL.out; omega) hsz5 ?_)
  intro v6 w6 o6 g6
  have B46 : Below u4.heap.size u4 w6 := B45.out.grown g6 B45.out.size (fun kq hk => (World.ownsRow.lt O5.out kq hk).1)
  have B6 := hideIt (below_then B4.out B46)
  have P6 := hideIt (P4.out.keep B46)
  have hml : (T ++ [120]).length = tn + 1 := by rw [List.length_append, HTN.out]; rfl
  obtain ⟨VB, vd, hv6, hpm, _⟩ := piece_own o6 hml (by have := HTL.out; omega)
  subst hv6
  have HP3 := hideIt (rparse_any VB (T ++ [120]) (tn + 1) vd w6 hpm hml (by have := HTL.out; omega) (HM.out.keep B6.out) (HPW.out.keep B6.out))
  unfold ParseRPost respV at HP3
  rw [HPM.out] at HP3
  have HP3' : Hid (Calls Tryd.prog 24 #[.slice VB (tn + 1) vd] w6 fun e w' => ∃ fv A' c', e = .returned (.tuple #[.agg #[.int .i64 0, fv, .slice A' 0 c'], .int .u16 10]) ∧ RespNew w6.heap.size fv A' c' RespZ w' ∧ Below w6.heap.size w6 w') := HP3
  clear o6 g6 B46 hpm hml P4 B45 O5 X5 HP3
  go_wp2_with fail
  refine HP3'.out.mono ?_
  rintro e u7 ⟨fv7, A7, c7, rfl, hnew, hb⟩
  obtain ⟨FE, fe, rfl, _, _, _, _⟩ := hnew.fields.open
  have hz : RespZ.fs.length = 0 := rfl
  rw [hz]
  have hbn := below_new u7 (.cells #[.int .i64 0, .slice FE 0 fe, .slice A7 0 c7] 25)
  have B7 := hideIt (below_then (below_then B6.out hb) hbn)
  have P7 := hideIt ((P6.out.keep hb).keep hbn)
  clear hnew hb hbn HP3' P6 hz
  go_upto_region 12 with fail
  generalize u7.alloc (.cells #[.int .i64 0, .slice FE 0 fe, .slice A7 0 c7] 25) = V at *
  generalize u7.heap.size = g15 at *
  obtain ⟨nn, hnn⟩ : ∃ nn, at_ % tn = nn := ⟨_, rfl⟩
  have htp := HTP.out
  have htm : Int.tmod (at_ : Int) (tn : Int) = (nn : Int) := by rw [Int.tmod_eq_emod_of_nonneg (by omega), ← hnn]; rfl
  have hnlt : nn < tn := by rw [← hnn]; exact Nat.mod_lt _ (by omega)
  have htz : ¬ (tn : Int) = 0 := by omega
  have htz2 : ((tn : Int) == 0) = false := by rw [beq_eq_false_iff_ne]; exact htz
  have hfit := P7.out.fits
  simp only at hfit
  rw [HTN.out] at hfit
  have hsl := fun w => slice_hi A2 tn c2 nn (by omega) w
  have hln : (T.take nn).length = nn := by rw [List.length_take, HTN.out]; omega
  have hpl : PieceOk V ⟨A2, c2, T.take nn⟩ := ⟨P7.out.bytes.front nn, by simp only; rw [hln]; omega, P7.out.most, by simp only; rw [hln]; have := HTL.out; omega, P7.out.nil⟩
  have HP4 := hideIt (rparse_any A2 (T.take nn) nn c2 V hpl hln (by have := HTL.out; omega) (HM.out.keep B7.out) (HPW.out.keep B7.out))
  unfold ParseRPost respV at HP4
  rw [HPL.out nn hnlt] at HP4
  have HP4' : Hid (Calls Tryd.prog 24 #[.slice A2 nn c2] V fun e w' => ∃ fv A' c', e = .returned (.tuple #[.agg #[.int .i64 0, fv, .slice A' 0 c'], .int .u16 10]) ∧ RespNew V.heap.size fv A' c' RespZ w' ∧ Below V.heap.size V w') := HP4
  clear hnn hpl hln HP4 P7 htz
  go_wp2_with fail
  refine HP4'.out.mono ?_
  rintro e u8 ⟨fv8, A8, c8, rfl, hnew, hb⟩
  obtain ⟨FG, fg, rfl, _, _, _, _⟩ := hnew.fields.open
  have hz : RespZ.fs.length = 0 := rfl
  rw [hz]
  have hbn := below_new u8 (.cells #[.int .i64 0, .slice FG 0 fg, .slice A8 0 c8] 25)
  have B8 := hideIt (below_then (below_then B7.out hb) hbn)
  clear hnew hb hbn HP4' hz
  go_upto_region 13 with fail
  generalize u8.alloc (.cells #[.int .i64 0, .slice FG 0 fg, .slice A8 0 c8] 25) = V2 at *
  go_wp2_with fail
  refine (HK.out _ B8.out).mono ?_
  rintro e u9 ⟨rfl, hb⟩
  have B9 := hideIt (below_then B8.out hb)
  clear hb
  go_wp2_with fail
  go_ret
  exact ⟨rfl, B9.out⟩
end Go.Proofs.YtolikoediafkkaaDoor
