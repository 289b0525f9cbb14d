/- The walk of RespPrints. -/
import Derived.Test.YtolikoediafkkaaDoorRespHeavy
import Derived.Test.YtolikoediafkkaaDoorRespBk
import Derived.Test.YtolikoediafkkaaDoorRespKnown
import Derived.Test.YtolikoediafkkaaDoorRespLaid
import Derived.Test.YtolikoediafkkaaDoorOpenResp
import Derived.Deep.Cut
namespace Go.Proofs.YtolikoediafkkaaDoor
open Go.ChangeShapes Go.WideShapes Go.ChangeAt Go.RowKit
set_option linter.unusedVariables false
set_option linter.unusedSimpArgs false

theorem run_rem600 (x p : Nat) (hx : x < 65536) (hp : x % 600 = p) (w : World) : (binOp .rem 26 (.int .u16 (x : Int)) (.int .u16 600)).run Tryd.prog w = .ok (.int .u16 (p : Int)) w := by
  subst hp
  have h1 : Int.tmod (x : Int) 600 = ((x % 600 : Nat) : Int) := by rw [Int.tmod_eq_emod_of_nonneg (by omega)]; omega
  have h2 : IntKind.u16.wrap ((x % 600 : Nat) : Int) = ((x % 600 : Nat) : Int) := by rw [IntKind.wrap_u16]; omega
  generalize x % 600 = y at *
  go_simp
section
variable {ops : Array Oper} {Q : Exit → Act → World → Prop} {o : Oper} {a : Act} {w : World}
theorem ok_u16int (hg : Region.wanted o (yielded ops a.tmps) = true) (x : Operand) (ho : o.op = .convert 26 3 x) (p : Nat) (h1 : a.eval x = .int .u16 (p : Int)) (hp : p < 65536) : StepOk Tryd.prog ops Q (Fact.is (.int .i64 (p : Int))) o a w := by
  refine ok_same hg _ ?_ rfl
  simp only [execOp, ho, h1]
  have h2 : IntKind.i64.wrap (p : Int) = (p : Int) := IntWalk.i64_in _ (by omega)
  go_simp
theorem ok_prints10 (hg : Region.wanted o (yielded ops a.tmps) = true) (x : Operand) (ts : Array TypeId) (ho : o.op = .call { callee := .value (.func 13), args := #[x], argTypes := ts }) (r : RespL) (h : (Fact.rsv r).p (a.eval x) w) (hl : r.fs.length ≤ 40 → ∀ p ∈ r.fs, p.1.length ≤ 400000 ∧ p.2.length ≤ 400000) (hT : PowOk w) : StepOk Tryd.prog ops Q (Fact.is (.bool true)) o a w := by
  obtain ⟨fv, A, c, e, hp⟩ := h
  exact ok_fn hg _ _ _ ho _ (map1 e) go_prints10 (prints10_any r fv A c w hp hl hT) (by rintro e w' ⟨rfl, hb⟩; exact ⟨_, rfl, rfl, hb⟩)
end
theorem piece_ownP {w : World} {B n : Nat} {v : Value} {xs : List UInt8} (h : w.ownsRow B 5 1 v n (cellsOf xs)) (hn : xs.length = n) (hl : n ≤ 140737488355328) : ∃ A c, v = .slice A n c ∧ PieceOk w ⟨A, c, xs⟩ ∧ n ≤ c := by
  obtain ⟨A, c, rfl, _, h3, h4, h5, h6⟩ := own_open h
  exact ⟨A, c, rfl, ⟨h6, by simp only; omega, by unfold maxLen at h4; exact h4, by simp only; omega, h5⟩, by omega⟩
theorem print_len {r : RespL} : (printR r).1.length ≤ 90000 := by
  by_cases h : (printR r).2 = 0
  · rw [(printR_ok h).2.2.2.2]; exact text_len h
  · rw [printR_zero h]; simp
theorem own_set {w : World} {B n cap g : Nat} {xs : List UInt8} (h : w.ownsRow B 5 1 (.slice (some ⟨g, 0, none⟩) n cap) n (cellsOf xs)) (j : Nat) (v : UInt8) :
    (w.setCell ⟨g, j, none⟩ (.int .u8 (v.toNat : Int))).ownsRow B 5 1 (.slice (some ⟨g, 0, none⟩) n cap) n (cellsOf (xs.set j v)) ∧ w.grownBy (w.setCell ⟨g, j, none⟩ (.int .u8 (v.toNat : Int))) (some g) := by
  have := World.ownsRow.stored h j (.int .u8 (v.toNat : Int))
  have e : (cellsOf xs).set j (.int .u8 (v.toNat : Int)) = cellsOf (xs.set j v) := by unfold cellsOf; rw [List.map_set]
  rw [e] at this
  exact this
set_option maxRecDepth 8000 in
set_option maxHeartbeats 16000000 in
theorem respPrints_walk (x0 : RespL) (f0 : Value) (a0 : Option Addr) (c0 : Nat) (x1 : RespL) (f1 : Value) (a1 : Option Addr) (c1 : Nat) (a2 : Option Addr) (len2 cap2 : Nat) (z2 : List Int) (a3 : Option Addr) (len3 cap3 : Nat) (z3 : List Int) (a4 : Option Addr) (len4 cap4 : Nat) (z4 : List Int) (a5 : Int) (a6 : Int) (a7 : Int) (w : World) (w0 : IsResp x0 f0 a0 c0 w) (w1 : IsResp x1 f1 a1 c1 w) (w2 : IsRow .u8 w a2 len2 cap2 z2) (w3 : IsRow .u8 w a3 len3 cap3 z3) (w4 : IsRow .u8 w a4 len4 cap4 z4) (w5 : (Lit.int .u8 a5).wf = true) (w6 : (Lit.int .u16 a6).wf = true) (w7 : (Lit.int .u8 a7).wf = true) (hT : Tabs w) (r2 : cap2 ≤ 140737488355328) (r3 : cap3 ≤ 140737488355328) (r4 : cap4 ≤ 140737488355328) :
    Calls Tryd.prog 3 #[respV x0 f0 a0 c0, respV x1 f1 a1 c1, .slice a2 len2 cap2, .slice a3 len3 cap3, .slice a4 len4 cap4, .int .u8 a5, .int .u16 a6, .int .u8 a7] w fun e w' => e = .returned (.bool true) ∧ Below w.heap.size w w' := by
  obtain ⟨hm, hpow⟩ := hT
  obtain ⟨_, _, hlc2, _⟩ := w2.bytes
  obtain ⟨_, _, hlc3, _⟩ := w3.bytes
  obtain ⟨_, _, hlc4, _⟩ := w4.bytes
  obtain ⟨bs, hbl, _, hbp⟩ := row_piece w2 (by omega)
  obtain ⟨cs, hcl, _, hcp⟩ := row_piece w3 (by omega)
  obtain ⟨bd, hdl, _, hdp⟩ := row_piece w4 (by omega)
  have hb5 := bounds_u8 w5
  have hb6 := bounds_u16 w6
  have hb7 := bounds_u8 w7
  obtain ⟨k, rfl⟩ : ∃ k : Nat, a5 = (k : Int) := ⟨a5.toNat, by omega⟩
  obtain ⟨at_, rfl⟩ : ∃ k : Nat, a6 = (k : Int) := ⟨a6.toNat, by omega⟩
  obtain ⟨vv, hvv⟩ : ∃ v : UInt8, a7 = (v.toNat : Int) := ⟨UInt8.ofNat a7.toNat, by rw [UInt8.toNat_ofNat']; omega⟩
  subst hvv
  obtain ⟨FA, fc, rfl, _⟩ := w0.parts.fields.form
  obtain ⟨FB, fd, rfl, _⟩ := w1.parts.fields.form
  obtain ⟨X, hX⟩ : ∃ X, w.alloc (.cells #[.int .i64 x0.status, .slice FA x0.fs.length fc, .slice a0 x0.body.length c0] 25) = X := ⟨_, rfl⟩
  obtain ⟨Y, hY⟩ : ∃ Y, X.alloc (.cells #[.int .i64 x1.status, .slice FB x1.fs.length fd, .slice a1 x1.body.length c1] 25) = Y := ⟨_, rfl⟩
  have hbx : Below w.heap.size w X := by rw [← hX]; exact below_new w _
  have hby : Below X.heap.size X Y := by rw [← hY]; exact below_new X _
  have hq0 : RCell X w.heap.size (.int .i64 x0.status) (.slice FA x0.fs.length fc) (.slice a0 x0.body.length c0) := by rw [← hX]; exact RCell.new w _ _ _
  have hq1 : RCell Y X.heap.size (.int .i64 x1.status) (.slice FB x1.fs.length fd) (.slice a1 x1.body.length c1) := by rw [← hY]; exact RCell.new X _ _ _
  have hxs : X.heap.size = w.heap.size + 1 := by rw [← hX]; exact alloc_size w _
  rw [hxs] at hq1
  have BY := hideIt (below_then hbx hby)
  have Q0 := hideIt (hq0.keep hby hq0.lt)
  have Q1 := hideIt hq1
  have W0 := hideIt w0
  have W1 := hideIt w1
  have HBP := hideIt hbp
  have HBL := hideIt hbl
  have HCP := hideIt hcp
  have HCL := hideIt hcl
  have HDP := hideIt hdp
  have HDL := hideIt hdl
  have HPW := hideIt hpow
  have HM := hideIt hm
  have HX := hideIt hX
  have HY := hideIt hY
  have HK := hideIt (fun w' (hb : Below w.heap.size w w') => known10_any w' (hpow.keep hb))
  have HH0 := hideIt (heavy10_any x0 (.slice FA x0.fs.length fc) a0 c0 Y (w0.parts.keep BY.out) w0.each w0.few)
  have HH1 := hideIt (fun w' (hb : Below w.heap.size w w') => heavy10_any x1 (.slice FB x1.fs.length fd) a1 c1 w' (w1.parts.keep hb) w1.each w1.few)
  have hws : IntKind.i64.wrap ((len2 : Int) + (len4 : Int)) = (len2 : Int) + (len4 : Int) := IntWalk.i64_in _ (by omega)
  have HB5 : Hid (k < 256) := hideIt (by omega)
  have HB6 : Hid (at_ < 65536) := hideIt (by omega)
  unfold respV at HH0 HH1 ⊢
  obtain ⟨s0, hs0⟩ : ∃ s, x0.status = s := ⟨_, rfl⟩
  obtain ⟨s1, hs1⟩ : ∃ s, x1.status = s := ⟨_, rfl⟩
  obtain ⟨n0, hn0⟩ : ∃ s, x0.fs.length = s := ⟨_, rfl⟩
  obtain ⟨n1, hn1⟩ : ∃ s, x1.fs.length = s := ⟨_, rfl⟩
  obtain ⟨m0, hm0⟩ : ∃ s, x0.body.length = s := ⟨_, rfl⟩
  obtain ⟨m1, hm1⟩ : ∃ s, x1.body.length = s := ⟨_, rfl⟩
  have S0 := hideIt hs0
  have S1 := hideIt hs1
  have N0 := hideIt hn0
  have N1 := hideIt hn1
  have M0 := hideIt hm0
  have M1 := hideIt hm1
  rw [hs0, hn0, hm0] at HH0 HX Q0 ⊢
  rw [hs1, hn1, hm1] at HH1 HY Q1 ⊢
  clear w0 w1 w2 w3 w4 w5 w6 w7 hm hpow hbp hcp hdp hbl hcl hdl hb5 hb6 hb7 hbx hby hq0 hq1 hX hY hxs z2 z3 z4 r2 r3 r4 hs0 hs1 hn0 hn1 hm0 hm1
  go_enter Tryd.func3, Tryd.ntmps3
  go_upto_region 1 with fail
  rw [HX.out, HY.out]
  have d0 := Q0.out.c0
  have d1 := Q0.out.c1
  have d2 := Q0.out.c2
  cases hh0 : heavyR x0 with
  | true =>
    rw [hh0] at HH0
    go_wp2_with fail
    refine HH0.out.mono ?_
    rintro e u1 ⟨rfl, hb⟩
    have B1 := hideIt (below_then BY.out hb)
    clear hb d0 d1 d2
    go_wp2_with fail
    refine (HK.out _ B1.out).mono ?_
    rintro e u2 ⟨rfl, hb⟩
    have B2 := hideIt (below_then B1.out hb)
    clear hb
    go_wp2_with fail
    go_ret
    exact ⟨rfl, B2.out⟩
  | false =>
    rw [hh0] at HH0
    have HV0 := hideIt hh0
    clear hh0
    go_wp2_with fail
    refine HH0.out.mono ?_
    rintro e u1 ⟨rfl, hb⟩
    have B1 := hideIt (below_then BY.out hb)
    have Q01 := hideIt (Q0.out.keep hb Q0.out.lt)
    have Q11 := hideIt (Q1.out.keep hb Q1.out.lt)
    have HH2 := hideIt (HH1.out _ B1.out)
    clear hb d0 d1 d2 HH0 HH1 Q0 Q1
    have e0 := Q11.out.c0
    have e1 := Q11.out.c1
    have e2 := Q11.out.c2
    cases hh1 : heavyR x1 with
    | true =>
      rw [hh1] at HH2
      go_wp2_with fail
      refine HH2.out.mono ?_
      rintro e u2 ⟨rfl, hb⟩
      have B2 := hideIt (below_then B1.out hb)
      clear hb e0 e1 e2
      go_wp2_with fail
      refine (HK.out _ B2.out).mono ?_
      rintro e u3 ⟨rfl, hb⟩
      have B3 := hideIt (below_then B2.out hb)
      clear hb
      go_wp2_with fail
      go_ret
      exact ⟨rfl, B3.out⟩
    | false =>
      rw [hh1] at HH2
      have HV1 := hideIt hh1
      clear hh1
      go_wp2_with fail
      refine HH2.out.mono ?_
      rintro e u2 ⟨rfl, hb⟩
      have B2 := hideIt (below_then B1.out hb)
      have Q02 := hideIt (Q01.out.keep hb Q01.out.lt)
      have Q12 := hideIt (Q11.out.keep hb Q11.out.lt)
      clear hb e0 e1 e2 HH2 Q01 Q11
      by_cases h500 : 500 < len2 + len4
      · have h5i : (500 : Int) < (len2 : Int) + (len4 : Int) := by omega
        go_wp2_with fail
        refine (HK.out _ B2.out).mono ?_
        rintro e u3 ⟨rfl, hb⟩
        have B3 := hideIt (below_then B2.out hb)
        clear hb
        go_wp2_with fail
        go_ret
        exact ⟨rfl, B3.out⟩
      have h5i : ¬ (500 : Int) < (len2 : Int) + (len4 : Int) := by omega
      have HL2 : Hid (len2 ≤ 500 ∧ len4 ≤ 500) := hideIt ⟨by omega, by omega⟩
      go_wp2_with fail
      refine (HK.out _ B2.out).mono ?_
      rintro e u3 ⟨rfl, hb⟩
      have B3 := hideIt (below_then B2.out hb)
      have Q03 := hideIt (Q02.out.keep hb Q02.out.lt)
      have Q13 := hideIt (Q12.out.keep hb Q12.out.lt)
      clear hb hws h500 Q02 Q12
      have HLR := hideIt (lresp_any a3 cs len3 cap3 a4 bd len4 cap4 k u3 (HCP.out.keep B3.out) HCL.out (HDP.out.keep B3.out) HDL.out HB5.out)
      obtain ⟨st, hst⟩ : ∃ st, statC k = st := ⟨_, rfl⟩
      obtain ⟨fs, hfs⟩ : ∃ fs, fieldsC cs (min len3 6) = fs := ⟨_, rfl⟩
      have HFSM : Hid (∀ p ∈ fs, p.1.length ≤ 400000 ∧ p.2.length ≤ 400000) := hideIt (by rw [← hfs]; exact fieldC_small _ _)
      have HFL : Hid (fs.length ≤ 6) := hideIt (by rw [← hfs, fieldsC_len]; omega)
      rw [hst, hfs] at HLR
      clear hst hfs
      go_wp2_with fail
      refine HLR.out.mono ?_
      rintro e u4 ⟨fv, rfl, hfo, hb⟩
      obtain ⟨FC, fe, rfl, _, _, _, _⟩ := hfo.open
      obtain ⟨fl, hfl⟩ : ∃ fl, fs.length = fl := ⟨_, rfl⟩
      have HFN := hideIt hfl
      rw [hfl] at hfo ⊢
      have hbn := below_new u4 (.cells #[.int .i64 st, .slice FC fl fe, .slice a4 len4 cap4] 25)
      have B4 := hideIt (below_then (below_then B3.out hb) hbn)
      have G4 := hideIt (RCell.new u4 (.int .i64 st) (.slice FC fl fe) (.slice a4 len4 cap4))
      have F4 := hideIt (hfo.keep hbn)
      have Q04 := hideIt ((Q03.out.keep hb Q03.out.lt).keep hbn (Q03.out.keep hb Q03.out.lt).lt)
      have Q14 := hideIt ((Q13.out.keep hb Q13.out.lt).keep hbn (Q13.out.keep hb Q13.out.lt).lt)
      clear hfo hb hbn HLR hfl Q03 Q13 h5i
      go_upto_region 4 with fail
      generalize u4.alloc (.cells #[.int .i64 st, .slice FC fl fe, .slice a4 len4 cap4] 25) = Z at *
      generalize u4.heap.size = g17 at *
      have HPT : Hid (∀ w1, Below Z.heap.size Z w1 → RespParts (.slice FC fl fe) a4 cap4 ⟨st, fs, bd⟩ w1) := hideIt fun w1 hb => ⟨(F4.out.keep hb).reads, (HDP.out.keep B4.out).keep hb⟩
      have HP1 := hideIt (refrprint_any ⟨st, fs, bd⟩ (.slice FC fl fe) a4 cap4 Z (HPT.out Z (Below.refl _ _)) (fun _ p hp => HFSM.out p hp) (HPW.out.keep B4.out))
      unfold RefPrintRPost respV at HP1
      simp only [HDL.out] at HP1
      have hpl : (printR ⟨st, fs, bd⟩).1.length ≤ 90000 := print_len
      obtain ⟨P, hP⟩ : ∃ P, printR ⟨st, fs, bd⟩ = P := ⟨_, rfl⟩
      obtain ⟨T, pk⟩ := P
      rw [hP] at HP1 hpl
      simp only at HP1 hpl
      clear hP
      obtain ⟨tn, htn⟩ : ∃ tn, T.length = tn := ⟨_, rfl⟩
      rw [htn] at HP1 hpl
      have HTN := hideIt htn
      have HTL := hideIt hpl
      clear htn hpl
      have d0 := G4.out.c0
      have d1 := G4.out.c1
      have d2 := G4.out.c2
      go_wp2_with fail
      refine HP1.out.mono ?_
      rintro e u5 ⟨A2, c2, rfl, hpp, _, hb⟩
      have B5 := hideIt (below_then B4.out hb)
      have G5 := hideIt (G4.out.keep hb G4.out.lt)
      have BZ5 := hideIt hb
      have Q05 := hideIt (Q04.out.keep hb Q04.out.lt)
      have Q15 := hideIt (Q14.out.keep hb Q14.out.lt)
      have P5 := hideIt hpp
      clear hpp hb HP1 d0 d1 d2 G4 Q04 Q14
      have hnil0 : u5.ownsRow u5.heap.size 5 1 (.slice none 0 0) 0 (cellsOf []) := ⟨rfl, Or.inl ⟨rfl, rfl⟩⟩
      go_wp2_with (at_builtin; refine wpList_app rfl (.tmp 49) (.tmp 50) rfl u5.heap.size (.slice none 0 0) 0 [] rfl hnil0 A2 tn c2 _ T rfl HTN.out P5.out.nil P5.out.bytes (by have := HTL.out; omega) (Nat.le_refl _) ?_)
      intro v6 w6 o6 g6
      have hb6 : Below u5.heap.size u5 w6 := (Below.refl _ _).grown g6 (Nat.le_refl _) (fun kq hk => by simp [Value.ownBlock] at hk)
      have o6' : w6.ownsRow u5.heap.size 5 1 v6 tn (cellsOf T) := by simpa using o6
      have hp6 := piece_ownP o6' HTN.out (by have := HTL.out; omega)
      obtain ⟨ZA, zc, hv6, hzp, _⟩ := hp6
      subst hv6
      have HAP : Hid (∀ gq, (Value.slice ZA tn zc).ownBlock = some gq → u5.heap.size ≤ gq) := hideIt fun gq h => (World.ownsRow.lt o6' gq h).1
      have B6 := hideIt (below_then B5.out hb6)
      have B56 := hideIt hb6
      have O6 := hideIt o6'
      have ZP6 := hideIt hzp
      clear o6 g6 o6' hzp hnil0 hb6
      have hfin : ∀ (V : World) (U : List UInt8), Below u5.heap.size u5 V → U.length = tn → PieceOk V ⟨ZA, zc, U⟩ → True := fun _ _ _ _ _ => trivial
      clear hfin
      obtain ⟨XR, hXR⟩ : ∃ XR : RespL, (⟨st, fs, bd⟩ : RespL) = XR := ⟨_, rfl⟩
      have HXR := hideIt hXR
      have HXS : Hid (XR.fs.length ≤ 40 → ∀ p ∈ XR.fs, p.1.length ≤ 400000 ∧ p.2.length ≤ 400000) := hideIt (by rw [← hXR]; exact fun _ p hp => HFSM.out p hp)
      have HXL : Hid (XR.fs.length ≤ 140737488355328) := hideIt (by rw [← hXR]; have := HFL.out; simp only; omega)
      have H0S : Hid (x0.fs.length ≤ 40 → ∀ p ∈ x0.fs, p.1.length ≤ 400000 ∧ p.2.length ≤ 400000) := hideIt fun h => heavy_few HV0.out h W0.out.parts.body.long W0.out.each
      have HRE0 : Hid (∀ w1, Calls Tryd.prog 15 #[.int .i64 s0] w1 fun e w' => e = .returned (.string (strOf (reasonL s0))) ∧ Below w1.heap.size w1 w') := hideIt fun w1 => reason_any s0 w1
      have HRR0 : Hid (∀ w1, Calls Tryd.prog 16 #[.int .i64 s0] w1 fun e w' => e = .returned (.string (strOf (reasonL s0))) ∧ Below w1.heap.size w1 w') := hideIt fun w1 => refreason_any s0 w1
      obtain ⟨p6, hp6⟩ : ∃ p6, at_ % 600 = p6 := ⟨_, rfl⟩
      have HP6 := hideIt hp6
      have hp6l : p6 < 600 := by omega
      have HRE6 : Hid (∀ w1, Calls Tryd.prog 15 #[.int .i64 (p6 : Int)] w1 fun e w' => e = .returned (.string (strOf (reasonL (p6 : Int)))) ∧ Below w1.heap.size w1 w') := hideIt fun w1 => reason_any _ w1
      have HRR6 : Hid (∀ w1, Calls Tryd.prog 16 #[.int .i64 (p6 : Int)] w1 fun e w' => e = .returned (.string (strOf (reasonL (p6 : Int)))) ∧ Below w1.heap.size w1 w') := hideIt fun w1 => refreason_any _ w1
      generalize reasonL s0 = R0 at *
      generalize reasonL (p6 : Int) = R6 at *
      clear hXR hp6
      by_cases htp : 0 < tn
      · have htpi : (0 : Int) < (tn : Int) := by omega
        have htz : ¬ (tn : Int) = 0 := by omega
        have htz2 : ((tn : Int) == 0) = false := by rw [beq_eq_false_iff_ne]; exact htz
        obtain ⟨nn, hnn⟩ : ∃ nn, at_ % tn = nn := ⟨_, rfl⟩
        have htm : Int.tmod (at_ : Int) (tn : Int) = (nn : Int) := by rw [Int.tmod_eq_emod_of_nonneg (by omega), ← hnn]; rfl
        have hnlt : nn < tn := by rw [← hnn]; exact Nat.mod_lt _ htp
        have hnli : (nn : Int) < (tn : Int) := by omega
        obtain ⟨zg, hzg⟩ : ∃ zg, ZA = some ⟨zg, 0, none⟩ := by
          rcases O6.out.2 with h0 | ⟨kq, cap, cur, e1, _⟩
          · have := h0.2; omega
          · exact ⟨kq, ((Value.slice.injEq ..).mp e1).1⟩
        subst hzg
        have hzl : zg < w6.heap.size := (World.ownsRow.lt O6.out zg rfl).2
        have hzb : u5.heap.size ≤ zg := (World.ownsRow.lt O6.out zg rfl).1
        have k1 := World.ownsRow.cellAt O6.out nn (by omega)
        rw [cellsOf_at T nn (by have := HTN.out; omega)] at k1
        have f1 := World.ownsRow.frozenAt O6.out nn
        obtain ⟨s1', s2'⟩ := own_set O6.out nn vv
        obtain ⟨V, hV⟩ : ∃ V, w6.setCell ⟨zg, nn, none⟩ (.int .u8 ((vv.toNat : Nat) : Int)) = V := ⟨_, rfl⟩
        rw [hV] at s1' s2'
        have HV := hideIt hV
        have B57 : Below u5.heap.size u5 V := by rw [← hV]; exact B56.out.setCell (by exact hzb) _
        have HUN : Hid ((T.set nn vv).length = tn) := hideIt (by rw [List.length_set]; exact HTN.out)
        obtain ⟨ZB, zc', e1, hzp, _⟩ := piece_ownP s1' HUN.out (by have := HTL.out; omega)
        obtain ⟨e2, _, e3⟩ := (Value.slice.injEq ..).mp e1
        subst e2 e3
        have PZV := hideIt hzp
        obtain ⟨U, hU⟩ : ∃ U, T.set nn vv = U := ⟨_, rfl⟩
        rw [hU] at HUN PZV
        have hat := HB6.out
        have hwa : IntKind.i64.wrap (at_ : Int) = (at_ : Int) := IntWalk.i64_in _ (by omega)
        clear hnn s1' s2' hV hzp e1 hU htz
        go_upto_region 9 with fail
        rw [HV.out]
        have BV := hideIt (below_then B5.out B57)
        have Q0V : Hid (RCell V w.heap.size (.int .i64 x0.status) (.slice FA x0.fs.length fc) (.slice a0 x0.body.length c0)) := hideIt (by rw [S0.out, N0.out, M0.out]; exact Q05.out.keep B57 Q05.out.lt)
        have Q1V : Hid (RCell V (w.heap.size + 1) (.int .i64 x1.status) (.slice FB x1.fs.length fd) (.slice a1 x1.body.length c1)) := hideIt (by rw [S1.out, N1.out, M1.out]; exact Q15.out.keep B57 Q15.out.lt)
        have GX : Hid (RCell V g17 (.int .i64 XR.status) (.slice FC fl fe) (.slice a4 XR.body.length cap4)) := hideIt (by rw [← HXR.out]; simp only [HDL.out]; exact G5.out.keep B57 G5.out.lt)
        have PX : Hid (RespParts (.slice FC fl fe) a4 cap4 XR V) := hideIt (by rw [← HXR.out]; exact HPT.out _ (BZ5.out.trans (B57.mono BZ5.out.size)))
        have P0V := hideIt (W0.out.parts.keep BV.out)
        have P1V := hideIt (W1.out.parts.keep BV.out)
        have PYV := hideIt (P5.out.keep B57)
        have HQ0L := hideIt Q0V.out.lt
        have HC00 : Hid (V.cell? ⟨w.heap.size, 0, none⟩ = some (.int .i64 s0)) := hideIt (by have := Q0V.out.c0; rw [S0.out] at this; exact this)
        have HPA := hideIt (fun w1 (hb : Below V.heap.size V w1) => parses10_any a2 bs len2 cap2 w1 (HBP.out.keep (below_then BV.out hb)) HBL.out (by have := HL2.out; omega) (HM.out.keep (below_then BV.out hb)) (HPW.out.keep (below_then BV.out hb)))
        have HPY := hideIt (fun w1 (hb : Below V.heap.size V w1) => parses10_any A2 T tn c2 w1 (PYV.out.keep hb) HTN.out (by have := HTL.out; omega) (HM.out.keep (below_then BV.out hb)) (HPW.out.keep (below_then BV.out hb)))
        have HPZ := hideIt (fun w1 (hb : Below V.heap.size V w1) => parses10_any (some ⟨zg, 0, none⟩) U tn zc w1 (PZV.out.keep hb) HUN.out (by have := HTL.out; omega) (HM.out.keep (below_then BV.out hb)) (HPW.out.keep (below_then BV.out hb)))
        have HPWV : Hid (PowOk V) := hideIt (HPW.out.keep BV.out)
        refine region_inv [Fact.rsv (x0), Fact.is (.bool true), Fact.is (.bool true), Fact.rsv (XR), Fact.is (.bool true), Fact.is (.bool true), Fact.is (.bool true), Fact.is (.slice a2 len2 cap2), Fact.is (.bool true), Fact.is (.bool true), Fact.is (.bool true), Fact.is (.slice A2 tn c2), Fact.is (.bool true), Fact.is (.bool true), Fact.is (.bool true), Fact.is (.slice (some ⟨zg, 0, none⟩) tn zc), Fact.is (.bool true), Fact.is (.bool true), Fact.is (.bool true), Fact.is (.pointer (some ⟨w.heap.size, 0, none⟩)), Fact.is (.int .i64 s0), Fact.str (R0), Fact.is (.pointer (some ⟨w.heap.size, 0, none⟩)), Fact.is (.int .i64 s0), Fact.str (R0), Fact.is (.bool true), Fact.is (.bool true), Fact.is (.bool true), Fact.is (.int .u16 ((at_ : Nat) : Int)), Fact.is (.int .u16 ((p6 : Nat) : Int)), Fact.is (.int .i64 ((p6 : Nat) : Int)), Fact.str (R6), Fact.is (.int .u16 ((at_ : Nat) : Int)), Fact.is (.int .u16 ((p6 : Nat) : Int)), Fact.is (.int .i64 ((p6 : Nat) : Int)), Fact.str (R6), Fact.is (.bool true), Fact.is (.bool true), Fact.is (.bool true), Fact.rsv (x0), Fact.rsv (x1), Fact.is (.bool (sameR x0 x1)), Fact.rsv (x0), Fact.rsv (x1), Fact.is (.bool (sameR x0 x1)), Fact.is (.bool true), Fact.is (.bool true), Fact.is (.bool true), Fact.rsv (XR), Fact.rsv (XR), Fact.is (.bool true), Fact.is (.bool true), Fact.is (.bool true)] (by kernel_rfl) (by kernel_rfl) ⟨fun a w1 m => ?_, fun a w1 m => ?_, fun a w1 m => ?_, fun a w1 m => ?_, fun a w1 m => ?_, fun a w1 m => ?_, fun a w1 m => ?_, fun a w1 m => ?_, fun a w1 m => ?_, fun a w1 m => ?_, fun a w1 m => ?_, fun a w1 m => ?_, fun a w1 m => ?_, fun a w1 m => ?_, fun a w1 m => ?_, fun a w1 m => ?_, fun a w1 m => ?_, fun a w1 m => ?_, fun a w1 m => ?_, fun a w1 m => ?_, fun a w1 m => ?_, fun a w1 m => ?_, fun a w1 m => ?_, fun a w1 m => ?_, fun a w1 m => ?_, fun a w1 m => ?_, fun a w1 m => ?_, fun a w1 m => ?_, fun a w1 m => ?_, fun a w1 m => ?_, fun a w1 m => ?_, fun a w1 m => ?_, fun a w1 m => ?_, fun a w1 m => ?_, fun a w1 m => ?_, fun a w1 m => ?_, fun a w1 m => ?_, fun a w1 m => ?_, fun a w1 m => ?_, fun a w1 m => ?_, fun a w1 m => ?_, fun a w1 m => ?_, fun a w1 m => ?_, fun a w1 m => ?_, fun a w1 m => ?_, fun a w1 m => ?_, fun a w1 m => ?_, fun a w1 m => ?_, fun a w1 m => ?_, fun a w1 m => ?_, fun a w1 m => ?_, fun a w1 m => ?_, fun a w1 m => ?_, trivial⟩ ?_
        · exact ok_loadR (wanted_none rfl) (.tmp 8) rfl w.heap.size x0 _ _ _ (m.old 8 rfl) (Q0V.out.keep m.grew Q0V.out.lt) (P0V.out.keep m.grew)
        · exact ok_prints10 (wanted_none rfl) (.tmp 63) _ rfl x0 (m.has 0 63 rfl rfl) H0S.out (HPWV.out.keep m.grew)
        · exact ok_move (wanted_none rfl) (.tmp 64) rfl (m.has 1 64 rfl rfl)
        · exact ok_loadR (wanted_some 2 true rfl 65 rfl true (m.has 2 65 rfl rfl)) (.tmp 17) rfl g17 XR _ _ _ (m.old 17 rfl) (GX.out.keep m.grew GX.out.lt) (PX.out.keep m.grew)
        · exact ok_prints10 (wanted_some 2 true rfl 65 rfl true (m.has 2 65 rfl rfl)) (.tmp 66) _ rfl XR (m.has 3 66 rfl rfl) HXS.out (HPWV.out.keep m.grew)
        · exact ok_pickT (wanted_none rfl) (.tmp 65) _ _ rfl (m.has 2 65 rfl rfl) (m.has 4 67 rfl rfl)
        · exact ok_move (wanted_none rfl) (.tmp 68) rfl (m.has 5 68 rfl rfl)
        · exact ok_move (wanted_some 6 true rfl 69 rfl true (m.has 6 69 rfl rfl)) (.tmp 2) rfl (m.old 2 rfl)
        · exact ok_fn (wanted_some 6 true rfl 69 rfl true (m.has 6 69 rfl rfl)) _ _ _ rfl _ (map1 (m.has 7 70 rfl rfl)) go_parses10 (HPA.out w1 m.grew) (fun e w' ⟨h1, h2⟩ => ⟨_, h1, rfl, h2⟩)
        · exact ok_pickT (wanted_none rfl) (.tmp 69) _ _ rfl (m.has 6 69 rfl rfl) (m.has 8 71 rfl rfl)
        · exact ok_move (wanted_none rfl) (.tmp 72) rfl (m.has 9 72 rfl rfl)
        · exact ok_move (wanted_some 10 true rfl 73 rfl true (m.has 10 73 rfl rfl)) (.tmp 18) rfl (m.old 18 rfl)
        · exact ok_fn (wanted_some 10 true rfl 73 rfl true (m.has 10 73 rfl rfl)) _ _ _ rfl _ (map1 (m.has 11 74 rfl rfl)) go_parses10 (HPY.out w1 m.grew) (fun e w' ⟨h1, h2⟩ => ⟨_, h1, rfl, h2⟩)
        · exact ok_pickT (wanted_none rfl) (.tmp 73) _ _ rfl (m.has 10 73 rfl rfl) (m.has 12 75 rfl rfl)
        · exact ok_move (wanted_none rfl) (.tmp 76) rfl (m.has 13 76 rfl rfl)
        · exact ok_move (wanted_some 14 true rfl 77 rfl true (m.has 14 77 rfl rfl)) (.tmp 20) rfl (m.old 20 rfl)
        · exact ok_fn (wanted_some 14 true rfl 77 rfl true (m.has 14 77 rfl rfl)) _ _ _ rfl _ (map1 (m.has 15 78 rfl rfl)) go_parses10 (HPZ.out w1 m.grew) (fun e w' ⟨h1, h2⟩ => ⟨_, h1, rfl, h2⟩)
        · exact ok_pickT (wanted_none rfl) (.tmp 77) _ _ rfl (m.has 14 77 rfl rfl) (m.has 16 79 rfl rfl)
        · exact ok_move (wanted_none rfl) (.tmp 80) rfl (m.has 17 80 rfl rfl)
        · exact ok_fieldR0 (wanted_some 18 true rfl 81 rfl true (m.has 18 81 rfl rfl)) (.tmp 8) rfl w.heap.size 0 (m.old 8 rfl)
        · exact ok_loadI (wanted_some 18 true rfl 81 rfl true (m.has 18 81 rfl rfl)) (.tmp 82) rfl ⟨w.heap.size, 0, none⟩ _ (m.has 19 82 rfl rfl) ((m.grew.cell (p := ⟨w.heap.size, 0, none⟩) HQ0L.out).trans HC00.out)
        · exact ok_fn (wanted_some 18 true rfl 81 rfl true (m.has 18 81 rfl rfl)) _ _ _ rfl _ (map1 (m.has 20 83 rfl rfl)) go_reason (HRE0.out w1) (fun e w' ⟨h1, h2⟩ => ⟨_, h1, rfl, h2⟩)
        · exact ok_fieldR0 (wanted_some 18 true rfl 81 rfl true (m.has 18 81 rfl rfl)) (.tmp 8) rfl w.heap.size 0 (m.old 8 rfl)
        · exact ok_loadI (wanted_some 18 true rfl 81 rfl true (m.has 18 81 rfl rfl)) (.tmp 85) rfl ⟨w.heap.size, 0, none⟩ _ (m.has 22 85 rfl rfl) ((m.grew.cell (p := ⟨w.heap.size, 0, none⟩) HQ0L.out).trans HC00.out)
        · exact ok_fn (wanted_some 18 true rfl 81 rfl true (m.has 18 81 rfl rfl)) _ _ _ rfl _ (map1 (m.has 23 86 rfl rfl)) go_refreason (HRR0.out w1) (fun e w' ⟨h1, h2⟩ => ⟨_, h1, rfl, h2⟩)
        · exact ok_streq (wanted_some 18 true rfl 81 rfl true (m.has 18 81 rfl rfl)) (.tmp 84) (.tmp 87) _ rfl _ _ (m.has 21 84 rfl rfl) (m.has 24 87 rfl rfl) _ (decide_eq_true rfl)
        · exact ok_pickT (wanted_none rfl) (.tmp 81) _ _ rfl (m.has 18 81 rfl rfl) (m.has 25 88 rfl rfl)
        · exact ok_move (wanted_none rfl) (.tmp 89) rfl (m.has 26 89 rfl rfl)
        · exact ok_move (wanted_some 27 true rfl 90 rfl true (m.has 27 90 rfl rfl)) (.tmp 6) rfl (m.old 6 rfl)
        · exact ok_bin (wanted_some 27 true rfl 90 rfl true (m.has 27 90 rfl rfl)) _ _ _ (.tmp 91) _ rfl _ _ _ (m.has 28 91 rfl rfl) (rfl) rfl (run_rem600 at_ p6 HB6.out HP6.out)
        · exact ok_u16int (wanted_some 27 true rfl 90 rfl true (m.has 27 90 rfl rfl)) (.tmp 92) rfl p6 (m.has 29 92 rfl rfl) (by omega)
        · exact ok_fn (wanted_some 27 true rfl 90 rfl true (m.has 27 90 rfl rfl)) _ _ _ rfl _ (map1 (m.has 30 93 rfl rfl)) go_reason (HRE6.out w1) (fun e w' ⟨h1, h2⟩ => ⟨_, h1, rfl, h2⟩)
        · exact ok_move (wanted_some 27 true rfl 90 rfl true (m.has 27 90 rfl rfl)) (.tmp 6) rfl (m.old 6 rfl)
        · exact ok_bin (wanted_some 27 true rfl 90 rfl true (m.has 27 90 rfl rfl)) _ _ _ (.tmp 95) _ rfl _ _ _ (m.has 32 95 rfl rfl) (rfl) rfl (run_rem600 at_ p6 HB6.out HP6.out)
        · exact ok_u16int (wanted_some 27 true rfl 90 rfl true (m.has 27 90 rfl rfl)) (.tmp 96) rfl p6 (m.has 33 96 rfl rfl) (by omega)
        · exact ok_fn (wanted_some 27 true rfl 90 rfl true (m.has 27 90 rfl rfl)) _ _ _ rfl _ (map1 (m.has 34 97 rfl rfl)) go_refreason (HRR6.out w1) (fun e w' ⟨h1, h2⟩ => ⟨_, h1, rfl, h2⟩)
        · exact ok_streq (wanted_some 27 true rfl 90 rfl true (m.has 27 90 rfl rfl)) (.tmp 94) (.tmp 98) _ rfl _ _ (m.has 31 94 rfl rfl) (m.has 35 98 rfl rfl) _ (decide_eq_true rfl)
        · exact ok_pickT (wanted_none rfl) (.tmp 90) _ _ rfl (m.has 27 90 rfl rfl) (m.has 36 99 rfl rfl)
        · exact ok_move (wanted_none rfl) (.tmp 100) rfl (m.has 37 100 rfl rfl)
        · exact ok_loadR (wanted_some 38 true rfl 101 rfl true (m.has 38 101 rfl rfl)) (.tmp 8) rfl w.heap.size x0 _ _ _ (m.old 8 rfl) (Q0V.out.keep m.grew Q0V.out.lt) (P0V.out.keep m.grew)
        · exact ok_loadR (wanted_some 38 true rfl 101 rfl true (m.has 38 101 rfl rfl)) (.tmp 9) rfl (w.heap.size + 1) x1 _ _ _ (m.old 9 rfl) (Q1V.out.keep m.grew Q1V.out.lt) (P1V.out.keep m.grew)
        · exact ok_rsame (wanted_some 38 true rfl 101 rfl true (m.has 38 101 rfl rfl)) (.tmp 102) (.tmp 103) _ rfl x0 x1 (m.has 39 102 rfl rfl) (m.has 40 103 rfl rfl) (W0.out.few) (sameR x0 x1) rfl
        · exact ok_loadR (wanted_some 38 true rfl 101 rfl true (m.has 38 101 rfl rfl)) (.tmp 8) rfl w.heap.size x0 _ _ _ (m.old 8 rfl) (Q0V.out.keep m.grew Q0V.out.lt) (P0V.out.keep m.grew)
        · exact ok_loadR (wanted_some 38 true rfl 101 rfl true (m.has 38 101 rfl rfl)) (.tmp 9) rfl (w.heap.size + 1) x1 _ _ _ (m.old 9 rfl) (Q1V.out.keep m.grew Q1V.out.lt) (P1V.out.keep m.grew)
        · exact ok_refrsame (wanted_some 38 true rfl 101 rfl true (m.has 38 101 rfl rfl)) (.tmp 105) (.tmp 106) _ rfl x0 x1 (m.has 42 105 rfl rfl) (m.has 43 106 rfl rfl) (W0.out.few) (sameR x0 x1) rfl
        · exact ok_booleq (wanted_some 38 true rfl 101 rfl true (m.has 38 101 rfl rfl)) (.tmp 104) (.tmp 107) _ rfl _ _ (m.has 41 104 rfl rfl) (m.has 44 107 rfl rfl) _ (decide_eq_true rfl)
        · exact ok_pickT (wanted_none rfl) (.tmp 101) _ _ rfl (m.has 38 101 rfl rfl) (m.has 45 108 rfl rfl)
        · exact ok_move (wanted_none rfl) (.tmp 109) rfl (m.has 46 109 rfl rfl)
        · exact ok_loadR (wanted_some 47 true rfl 110 rfl true (m.has 47 110 rfl rfl)) (.tmp 17) rfl g17 XR _ _ _ (m.old 17 rfl) (GX.out.keep m.grew GX.out.lt) (PX.out.keep m.grew)
        · exact ok_loadR (wanted_some 47 true rfl 110 rfl true (m.has 47 110 rfl rfl)) (.tmp 17) rfl g17 XR _ _ _ (m.old 17 rfl) (GX.out.keep m.grew GX.out.lt) (PX.out.keep m.grew)
        · exact ok_rsame (wanted_some 47 true rfl 110 rfl true (m.has 47 110 rfl rfl)) (.tmp 111) (.tmp 112) _ rfl XR XR (m.has 48 111 rfl rfl) (m.has 49 112 rfl rfl) (HXL.out) true (sameR_refl _)
        · exact ok_pickT (wanted_none rfl) (.tmp 110) _ _ rfl (m.has 47 110 rfl rfl) (m.has 50 113 rfl rfl)
        · exact ok_assign (wanted_none rfl) (.tmp 114) rfl (m.has 51 114 rfl rfl)
        intro f w9 hg hf
        exact fin_ret ‹_› rfl rfl rfl 52 rfl ⟨congrArg Ending.returned (hf 52 (by decide)), below_then BV.out hg⟩
      · have htz : tn = 0 := by omega
        have htpi : ¬ (0 : Int) < (tn : Int) := by omega
        have B57 := B56.out
        have PZV := hideIt ZP6.out
        have HUN := hideIt HTN.out
        clear htz
        go_upto_region 9 with fail
        have BV := hideIt (below_then B5.out B57)
        have Q0V : Hid (RCell w6 w.heap.size (.int .i64 x0.status) (.slice FA x0.fs.length fc) (.slice a0 x0.body.length c0)) := hideIt (by rw [S0.out, N0.out, M0.out]; exact Q05.out.keep B57 Q05.out.lt)
        have Q1V : Hid (RCell w6 (w.heap.size + 1) (.int .i64 x1.status) (.slice FB x1.fs.length fd) (.slice a1 x1.body.length c1)) := hideIt (by rw [S1.out, N1.out, M1.out]; exact Q15.out.keep B57 Q15.out.lt)
        have GX : Hid (RCell w6 g17 (.int .i64 XR.status) (.slice FC fl fe) (.slice a4 XR.body.length cap4)) := hideIt (by rw [← HXR.out]; simp only [HDL.out]; exact G5.out.keep B57 G5.out.lt)
        have PX : Hid (RespParts (.slice FC fl fe) a4 cap4 XR w6) := hideIt (by rw [← HXR.out]; exact HPT.out _ (BZ5.out.trans (B57.mono BZ5.out.size)))
        have P0V := hideIt (W0.out.parts.keep BV.out)
        have P1V := hideIt (W1.out.parts.keep BV.out)
        have PYV := hideIt (P5.out.keep B57)
        have HQ0L := hideIt Q0V.out.lt
        have HC00 : Hid (w6.cell? ⟨w.heap.size, 0, none⟩ = some (.int .i64 s0)) := hideIt (by have := Q0V.out.c0; rw [S0.out] at this; exact this)
        have HPA := hideIt (fun w1 (hb : Below w6.heap.size w6 w1) => parses10_any a2 bs len2 cap2 w1 (HBP.out.keep (below_then BV.out hb)) HBL.out (by have := HL2.out; omega) (HM.out.keep (below_then BV.out hb)) (HPW.out.keep (below_then BV.out hb)))
        have HPY := hideIt (fun w1 (hb : Below w6.heap.size w6 w1) => parses10_any A2 T tn c2 w1 (PYV.out.keep hb) HTN.out (by have := HTL.out; omega) (HM.out.keep (below_then BV.out hb)) (HPW.out.keep (below_then BV.out hb)))
        have HPZ := hideIt (fun w1 (hb : Below w6.heap.size w6 w1) => parses10_any ZA T tn zc w1 (PZV.out.keep hb) HUN.out (by have := HTL.out; omega) (HM.out.keep (below_then BV.out hb)) (HPW.out.keep (below_then BV.out hb)))
        have HPWV : Hid (PowOk w6) := hideIt (HPW.out.keep BV.out)
        refine region_inv [Fact.rsv (x0), Fact.is (.bool true), Fact.is (.bool true), Fact.rsv (XR), Fact.is (.bool true), Fact.is (.bool true), Fact.is (.bool true), Fact.is (.slice a2 len2 cap2), Fact.is (.bool true), Fact.is (.bool true), Fact.is (.bool true), Fact.is (.slice A2 tn c2), Fact.is (.bool true), Fact.is (.bool true), Fact.is (.bool true), Fact.is (.slice ZA tn zc), Fact.is (.bool true), Fact.is (.bool true), Fact.is (.bool true), Fact.is (.pointer (some ⟨w.heap.size, 0, none⟩)), Fact.is (.int .i64 s0), Fact.str (R0), Fact.is (.pointer (some ⟨w.heap.size, 0, none⟩)), Fact.is (.int .i64 s0), Fact.str (R0), Fact.is (.bool true), Fact.is (.bool true), Fact.is (.bool true), Fact.is (.int .u16 ((at_ : Nat) : Int)), Fact.is (.int .u16 ((p6 : Nat) : Int)), Fact.is (.int .i64 ((p6 : Nat) : Int)), Fact.str (R6), Fact.is (.int .u16 ((at_ : Nat) : Int)), Fact.is (.int .u16 ((p6 : Nat) : Int)), Fact.is (.int .i64 ((p6 : Nat) : Int)), Fact.str (R6), Fact.is (.bool true), Fact.is (.bool true), Fact.is (.bool true), Fact.rsv (x0), Fact.rsv (x1), Fact.is (.bool (sameR x0 x1)), Fact.rsv (x0), Fact.rsv (x1), Fact.is (.bool (sameR x0 x1)), Fact.is (.bool true), Fact.is (.bool true), Fact.is (.bool true), Fact.rsv (XR), Fact.rsv (XR), Fact.is (.bool true), Fact.is (.bool true), Fact.is (.bool true)] (by kernel_rfl) (by kernel_rfl) ⟨fun a w1 m => ?_, fun a w1 m => ?_, fun a w1 m => ?_, fun a w1 m => ?_, fun a w1 m => ?_, fun a w1 m => ?_, fun a w1 m => ?_, fun a w1 m => ?_, fun a w1 m => ?_, fun a w1 m => ?_, fun a w1 m => ?_, fun a w1 m => ?_, fun a w1 m => ?_, fun a w1 m => ?_, fun a w1 m => ?_, fun a w1 m => ?_, fun a w1 m => ?_, fun a w1 m => ?_, fun a w1 m => ?_, fun a w1 m => ?_, fun a w1 m => ?_, fun a w1 m => ?_, fun a w1 m => ?_, fun a w1 m => ?_, fun a w1 m => ?_, fun a w1 m => ?_, fun a w1 m => ?_, fun a w1 m => ?_, fun a w1 m => ?_, fun a w1 m => ?_, fun a w1 m => ?_, fun a w1 m => ?_, fun a w1 m => ?_, fun a w1 m => ?_, fun a w1 m => ?_, fun a w1 m => ?_, fun a w1 m => ?_, fun a w1 m => ?_, fun a w1 m => ?_, fun a w1 m => ?_, fun a w1 m => ?_, fun a w1 m => ?_, fun a w1 m => ?_, fun a w1 m => ?_, fun a w1 m => ?_, fun a w1 m => ?_, fun a w1 m => ?_, fun a w1 m => ?_, fun a w1 m => ?_, fun a w1 m => ?_, fun a w1 m => ?_, fun a w1 m => ?_, fun a w1 m => ?_, trivial⟩ ?_
        · exact ok_loadR (wanted_none rfl) (.tmp 8) rfl w.heap.size x0 _ _ _ (m.old 8 rfl) (Q0V.out.keep m.grew Q0V.out.lt) (P0V.out.keep m.grew)
        · exact ok_prints10 (wanted_none rfl) (.tmp 63) _ rfl x0 (m.has 0 63 rfl rfl) H0S.out (HPWV.out.keep m.grew)
        · exact ok_move (wanted_none rfl) (.tmp 64) rfl (m.has 1 64 rfl rfl)
        · exact ok_loadR (wanted_some 2 true rfl 65 rfl true (m.has 2 65 rfl rfl)) (.tmp 17) rfl g17 XR _ _ _ (m.old 17 rfl) (GX.out.keep m.grew GX.out.lt) (PX.out.keep m.grew)
        · exact ok_prints10 (wanted_some 2 true rfl 65 rfl true (m.has 2 65 rfl rfl)) (.tmp 66) _ rfl XR (m.has 3 66 rfl rfl) HXS.out (HPWV.out.keep m.grew)
        · exact ok_pickT (wanted_none rfl) (.tmp 65) _ _ rfl (m.has 2 65 rfl rfl) (m.has 4 67 rfl rfl)
        · exact ok_move (wanted_none rfl) (.tmp 68) rfl (m.has 5 68 rfl rfl)
        · exact ok_move (wanted_some 6 true rfl 69 rfl true (m.has 6 69 rfl rfl)) (.tmp 2) rfl (m.old 2 rfl)
        · exact ok_fn (wanted_some 6 true rfl 69 rfl true (m.has 6 69 rfl rfl)) _ _ _ rfl _ (map1 (m.has 7 70 rfl rfl)) go_parses10 (HPA.out w1 m.grew) (fun e w' ⟨h1, h2⟩ => ⟨_, h1, rfl, h2⟩)
        · exact ok_pickT (wanted_none rfl) (.tmp 69) _ _ rfl (m.has 6 69 rfl rfl) (m.has 8 71 rfl rfl)
        · exact ok_move (wanted_none rfl) (.tmp 72) rfl (m.has 9 72 rfl rfl)
        · exact ok_move (wanted_some 10 true rfl 73 rfl true (m.has 10 73 rfl rfl)) (.tmp 18) rfl (m.old 18 rfl)
        · exact ok_fn (wanted_some 10 true rfl 73 rfl true (m.has 10 73 rfl rfl)) _ _ _ rfl _ (map1 (m.has 11 74 rfl rfl)) go_parses10 (HPY.out w1 m.grew) (fun e w' ⟨h1, h2⟩ => ⟨_, h1, rfl, h2⟩)
        · exact ok_pickT (wanted_none rfl) (.tmp 73) _ _ rfl (m.has 10 73 rfl rfl) (m.has 12 75 rfl rfl)
        · exact ok_move (wanted_none rfl) (.tmp 76) rfl (m.has 13 76 rfl rfl)
        · exact ok_move (wanted_some 14 true rfl 77 rfl true (m.has 14 77 rfl rfl)) (.tmp 20) rfl (m.old 20 rfl)
        · exact ok_fn (wanted_some 14 true rfl 77 rfl true (m.has 14 77 rfl rfl)) _ _ _ rfl _ (map1 (m.has 15 78 rfl rfl)) go_parses10 (HPZ.out w1 m.grew) (fun e w' ⟨h1, h2⟩ => ⟨_, h1, rfl, h2⟩)
        · exact ok_pickT (wanted_none rfl) (.tmp 77) _ _ rfl (m.has 14 77 rfl rfl) (m.has 16 79 rfl rfl)
        · exact ok_move (wanted_none rfl) (.tmp 80) rfl (m.has 17 80 rfl rfl)
        · exact ok_fieldR0 (wanted_some 18 true rfl 81 rfl true (m.has 18 81 rfl rfl)) (.tmp 8) rfl w.heap.size 0 (m.old 8 rfl)
        · exact ok_loadI (wanted_some 18 true rfl 81 rfl true (m.has 18 81 rfl rfl)) (.tmp 82) rfl ⟨w.heap.size, 0, none⟩ _ (m.has 19 82 rfl rfl) ((m.grew.cell (p := ⟨w.heap.size, 0, none⟩) HQ0L.out).trans HC00.out)
        · exact ok_fn (wanted_some 18 true rfl 81 rfl true (m.has 18 81 rfl rfl)) _ _ _ rfl _ (map1 (m.has 20 83 rfl rfl)) go_reason (HRE0.out w1) (fun e w' ⟨h1, h2⟩ => ⟨_, h1, rfl, h2⟩)
        · exact ok_fieldR0 (wanted_some 18 true rfl 81 rfl true (m.has 18 81 rfl rfl)) (.tmp 8) rfl w.heap.size 0 (m.old 8 rfl)
        · exact ok_loadI (wanted_some 18 true rfl 81 rfl true (m.has 18 81 rfl rfl)) (.tmp 85) rfl ⟨w.heap.size, 0, none⟩ _ (m.has 22 85 rfl rfl) ((m.grew.cell (p := ⟨w.heap.size, 0, none⟩) HQ0L.out).trans HC00.out)
        · exact ok_fn (wanted_some 18 true rfl 81 rfl true (m.has 18 81 rfl rfl)) _ _ _ rfl _ (map1 (m.has 23 86 rfl rfl)) go_refreason (HRR0.out w1) (fun e w' ⟨h1, h2⟩ => ⟨_, h1, rfl, h2⟩)
        · exact ok_streq (wanted_some 18 true rfl 81 rfl true (m.has 18 81 rfl rfl)) (.tmp 84) (.tmp 87) _ rfl _ _ (m.has 21 84 rfl rfl) (m.has 24 87 rfl rfl) _ (decide_eq_true rfl)
        · exact ok_pickT (wanted_none rfl) (.tmp 81) _ _ rfl (m.has 18 81 rfl rfl) (m.has 25 88 rfl rfl)
        · exact ok_move (wanted_none rfl) (.tmp 89) rfl (m.has 26 89 rfl rfl)
        · exact ok_move (wanted_some 27 true rfl 90 rfl true (m.has 27 90 rfl rfl)) (.tmp 6) rfl (m.old 6 rfl)
        · exact ok_bin (wanted_some 27 true rfl 90 rfl true (m.has 27 90 rfl rfl)) _ _ _ (.tmp 91) _ rfl _ _ _ (m.has 28 91 rfl rfl) (rfl) rfl (run_rem600 at_ p6 HB6.out HP6.out)
        · exact ok_u16int (wanted_some 27 true rfl 90 rfl true (m.has 27 90 rfl rfl)) (.tmp 92) rfl p6 (m.has 29 92 rfl rfl) (by omega)
        · exact ok_fn (wanted_some 27 true rfl 90 rfl true (m.has 27 90 rfl rfl)) _ _ _ rfl _ (map1 (m.has 30 93 rfl rfl)) go_reason (HRE6.out w1) (fun e w' ⟨h1, h2⟩ => ⟨_, h1, rfl, h2⟩)
        · exact ok_move (wanted_some 27 true rfl 90 rfl true (m.has 27 90 rfl rfl)) (.tmp 6) rfl (m.old 6 rfl)
        · exact ok_bin (wanted_some 27 true rfl 90 rfl true (m.has 27 90 rfl rfl)) _ _ _ (.tmp 95) _ rfl _ _ _ (m.has 32 95 rfl rfl) (rfl) rfl (run_rem600 at_ p6 HB6.out HP6.out)
        · exact ok_u16int (wanted_some 27 true rfl 90 rfl true (m.has 27 90 rfl rfl)) (.tmp 96) rfl p6 (m.has 33 96 rfl rfl) (by omega)
        · exact ok_fn (wanted_some 27 true rfl 90 rfl true (m.has 27 90 rfl rfl)) _ _ _ rfl _ (map1 (m.has 34 97 rfl rfl)) go_refreason (HRR6.out w1) (fun e w' ⟨h1, h2⟩ => ⟨_, h1, rfl, h2⟩)
        · exact ok_streq (wanted_some 27 true rfl 90 rfl true (m.has 27 90 rfl rfl)) (.tmp 94) (.tmp 98) _ rfl _ _ (m.has 31 94 rfl rfl) (m.has 35 98 rfl rfl) _ (decide_eq_true rfl)
        · exact ok_pickT (wanted_none rfl) (.tmp 90) _ _ rfl (m.has 27 90 rfl rfl) (m.has 36 99 rfl rfl)
        · exact ok_move (wanted_none rfl) (.tmp 100) rfl (m.has 37 100 rfl rfl)
        · exact ok_loadR (wanted_some 38 true rfl 101 rfl true (m.has 38 101 rfl rfl)) (.tmp 8) rfl w.heap.size x0 _ _ _ (m.old 8 rfl) (Q0V.out.keep m.grew Q0V.out.lt) (P0V.out.keep m.grew)
        · exact ok_loadR (wanted_some 38 true rfl 101 rfl true (m.has 38 101 rfl rfl)) (.tmp 9) rfl (w.heap.size + 1) x1 _ _ _ (m.old 9 rfl) (Q1V.out.keep m.grew Q1V.out.lt) (P1V.out.keep m.grew)
        · exact ok_rsame (wanted_some 38 true rfl 101 rfl true (m.has 38 101 rfl rfl)) (.tmp 102) (.tmp 103) _ rfl x0 x1 (m.has 39 102 rfl rfl) (m.has 40 103 rfl rfl) (W0.out.few) (sameR x0 x1) rfl
        · exact ok_loadR (wanted_some 38 true rfl 101 rfl true (m.has 38 101 rfl rfl)) (.tmp 8) rfl w.heap.size x0 _ _ _ (m.old 8 rfl) (Q0V.out.keep m.grew Q0V.out.lt) (P0V.out.keep m.grew)
        · exact ok_loadR (wanted_some 38 true rfl 101 rfl true (m.has 38 101 rfl rfl)) (.tmp 9) rfl (w.heap.size + 1) x1 _ _ _ (m.old 9 rfl) (Q1V.out.keep m.grew Q1V.out.lt) (P1V.out.keep m.grew)
        · exact ok_refrsame (wanted_some 38 true rfl 101 rfl true (m.has 38 101 rfl rfl)) (.tmp 105) (.tmp 106) _ rfl x0 x1 (m.has 42 105 rfl rfl) (m.has 43 106 rfl rfl) (W0.out.few) (sameR x0 x1) rfl
        · exact ok_booleq (wanted_some 38 true rfl 101 rfl true (m.has 38 101 rfl rfl)) (.tmp 104) (.tmp 107) _ rfl _ _ (m.has 41 104 rfl rfl) (m.has 44 107 rfl rfl) _ (decide_eq_true rfl)
        · exact ok_pickT (wanted_none rfl) (.tmp 101) _ _ rfl (m.has 38 101 rfl rfl) (m.has 45 108 rfl rfl)
        · exact ok_move (wanted_none rfl) (.tmp 109) rfl (m.has 46 109 rfl rfl)
        · exact ok_loadR (wanted_some 47 true rfl 110 rfl true (m.has 47 110 rfl rfl)) (.tmp 17) rfl g17 XR _ _ _ (m.old 17 rfl) (GX.out.keep m.grew GX.out.lt) (PX.out.keep m.grew)
        · exact ok_loadR (wanted_some 47 true rfl 110 rfl true (m.has 47 110 rfl rfl)) (.tmp 17) rfl g17 XR _ _ _ (m.old 17 rfl) (GX.out.keep m.grew GX.out.lt) (PX.out.keep m.grew)
        · exact ok_rsame (wanted_some 47 true rfl 110 rfl true (m.has 47 110 rfl rfl)) (.tmp 111) (.tmp 112) _ rfl XR XR (m.has 48 111 rfl rfl) (m.has 49 112 rfl rfl) (HXL.out) true (sameR_refl _)
        · exact ok_pickT (wanted_none rfl) (.tmp 110) _ _ rfl (m.has 47 110 rfl rfl) (m.has 50 113 rfl rfl)
        · exact ok_assign (wanted_none rfl) (.tmp 114) rfl (m.has 51 114 rfl rfl)
        intro f w9 hg hf
        exact fin_ret ‹_› rfl rfl rfl 52 rfl ⟨congrArg Ending.returned (hf 52 (by decide)), below_then BV.out hg⟩
end Go.Proofs.YtolikoediafkkaaDoor
