/- A call that may panic, at an act that stands as it is; a slice whose run is known, in a region by the invariant. Nothing here speaks of one function. And what was CallP, HttpReq. -/
import Derived.Test.YtbojigimldfghaaDoorStrFacts
import Derived.Test.YtbojigimldfghaaDoorHttpFields
import Derived.Test.YtbojigimldfghaaDoorReqMem
import Derived.Test.YtbojigimldfghaaDoorHeadAll
import Derived.Deep.Cut
import Derived.Defers
import Derived.Recover
namespace Go.Proofs.YtbojigimldfghaaDoor
open Go.ChangeShapes Go.WideShapes Go.ChangeAt Go.RowKit
set_option linter.unusedVariables false

section
variable {o : Oper} {a : Act} {w : World} {next : Act → World → Prop} {Q : Exit → Act → World → Prop}
theorem wp_callP (f : FuncId) (args : Array Operand) (ts : Array TypeId) (ho : o.op = .call { callee := .value (.func f), args := args, argTypes := ts }) (vs : Array Value) (hvs : args.map a.eval = vs) (hf : goFn Tryd.prog f = true) {R : Ending → World → Prop} (h : Calls Tryd.prog f vs w R)
    (hR : ∀ e w', R e w' → (∃ v, e = .returned v ∧ next (a.put o.dst v) w') ∨ ∃ ch, e = .panicked ch ∧ Q (.panic ch) a w') : Oper.wp Tryd.prog o a w next Q := by
  obtain ⟨dst, op, ty, pos, after, guard⟩ := o
  simp only at ho
  subst ho
  unfold Oper.wp
  rw [execOp_call_go, hvs, show (callFunc f (#[] ++ vs ++ #[])).run Tryd.prog w = _ from run_enter hf _ w, Oper.upon_enter]
  simp only [Array.empty_append, Array.append_empty]
  refine h.mono fun e w' hh => ?_
  rcases hR e w' hh with ⟨v, rfl, k⟩ | ⟨ch, rfl, k⟩
  · exact k
  · exact k
end
section
variable {ops : Array Oper} {Q : Exit → Act → World → Prop} {o : Oper} {a : Act} {w : World}
theorem ok_sliceR (hg : Region.wanted o (yielded ops a.tmps) = true) (x y : Operand) (ho : o.op = .slice 22 x (some y) none none) (p q r : Value) (h1 : a.eval x = p) (h2 : a.eval y = q) (hr : ∀ w, (Instr.slice 22 p (some q) none none).run Tryd.prog w = .ok r w) : StepOk Tryd.prog ops Q (Fact.is r) o a w := by
  refine ok_same hg _ ?_ rfl
  simp [execOp, ho, h1, h2, Instr.sliceAt, hr]
end
end Go.Proofs.YtbojigimldfghaaDoor

/- Contract of http.request. -/
namespace Go.Proofs.YtbojigimldfghaaDoor
open Go.ChangeShapes Go.WideShapes Go.ChangeAt Go.RowKit
set_option linter.unusedVariables false
set_option linter.unusedSimpArgs false

/-- what lines, and what stands behind them, make -/
def afterL (ls : List (List UInt8)) (r : List UInt8) : ReqL × Nat :=
  match ls with
  | [] => (ReqZ, 10)
  | x :: ls =>
    if (firstL x).2 ≠ 0 then (ReqZ, (firstL x).2)
    else if (fieldsL ls).2 ≠ 0 then (ReqZ, (fieldsL ls).2)
    else if bodyL (fieldsL ls).1 r.length ≠ 0 then (ReqZ, bodyL (fieldsL ls).1 r.length)
    else (⟨(firstL x).1.1, (firstL x).1.2, (fieldsL ls).1, r⟩, 0)
theorem req_some {b r : List UInt8} {ls : List (List UInt8)} (h : linesL b = some (ls, r)) : reqL b = afterL ls r := by
  unfold reqL afterL
  rw [h]
  cases ls <;> rfl
theorem req_none {b : List UInt8} (h : linesL b = none) : reqL b = (ReqZ, 10) := by unfold reqL; rw [h]
theorem after_first {x : List UInt8} {ls : List (List UInt8)} {r : List UInt8} (h : (firstL x).2 ≠ 0) : afterL (x :: ls) r = (ReqZ, (firstL x).2) := if_pos h
theorem after_fields {x : List UInt8} {ls : List (List UInt8)} {r : List UInt8} (h : (firstL x).2 = 0) (h2 : (fieldsL ls).2 ≠ 0) : afterL (x :: ls) r = (ReqZ, (fieldsL ls).2) := by
  show (if (firstL x).2 ≠ 0 then _ else _) = _
  rw [if_neg (by simp [h]), if_pos h2]
theorem after_body {x : List UInt8} {ls : List (List UInt8)} {r : List UInt8} (h : (firstL x).2 = 0) (h2 : (fieldsL ls).2 = 0) : afterL (x :: ls) r = if bodyL (fieldsL ls).1 r.length ≠ 0 then (ReqZ, bodyL (fieldsL ls).1 r.length) else (⟨(firstL x).1.1, (firstL x).1.2, (fieldsL ls).1, r⟩, 0) := by
  show (if (firstL x).2 ≠ 0 then _ else _) = _
  rw [if_neg (by simp [h]), if_neg (by simp [h2])]
theorem body_host {fs : List PairL} {n : Nat} (h : (allL fs hostL).length ≠ 1) : bodyL fs n = 14 := by unfold bodyL twiceB; simp [h]
theorem body_code {fs : List PairL} {n : Nat} (h : (allL fs codeL).length ≠ 0) : bodyL fs n = 14 := by
  unfold bodyL twiceB
  rw [decide_eq_false h]
  simp
theorem body_leng {fs : List PairL} {n : Nat} (h : ¬ (allL fs lengL).length ≤ 1) : bodyL fs n = 14 := by
  unfold bodyL twiceB
  rw [decide_eq_false h]
  simp
theorem body_want {fs : List PairL} {n : Nat} (h1 : (allL fs hostL).length = 1) (h2 : (allL fs codeL).length = 0) (h3 : (allL fs lengL).length ≤ 1) : bodyL fs n = if wantL (allL fs lengL) = some n then 0 else 13 := by
  unfold bodyL twiceB
  rw [decide_eq_true h1, decide_eq_true h2, decide_eq_true h3]
  simp
theorem all_in {fs : List PairL} {nm : List UInt8} : ∀ x ∈ allL fs nm, ∃ p ∈ fs, x = p.2 := by
  intro x hx
  obtain ⟨p, hp, rfl⟩ := List.mem_map.1 hx
  exact ⟨p, (List.mem_filter.1 hp).1, rfl⟩
/-- fields are no longer than their lines -/
theorem fields_len {ls : List (List UInt8)} {k : Nat} (h : ∀ x ∈ ls, x.length ≤ k) : ∀ p ∈ (fieldsL ls).1, p.1.length ≤ k ∧ p.2.length ≤ k := by
  intro p hp
  by_cases h0 : (fieldsL ls).2 = 0
  · obtain ⟨_, _, e⟩ := fieldsL_small h0
    rw [e] at hp
    obtain ⟨x, hx, rfl⟩ := List.mem_map.1 hp
    have := fieldL_len x
    have := h x hx
    omega
  · exfalso
    unfold fieldsL at hp h0
    split at hp
    · simp at hp
    · split at hp
      · simp at hp
      · rename_i h1 _ h2
        rw [if_neg h1, h2] at h0
        exact h0 rfl
theorem fields_few {ls : List (List UInt8)} : (fieldsL ls).1.length ≤ 40 := by
  by_cases h0 : (fieldsL ls).2 = 0
  · obtain ⟨h1, _, e⟩ := fieldsL_small h0
    rw [e, List.length_map]; exact h1
  · unfold fieldsL at h0 ⊢
    split
    · simp
    · split
      · simp
      · rename_i h1 _ h2
        rw [if_neg h1, h2] at h0
        exact absurd rfl h0
/-- what request answers -/
def ReqPost (R : ReqL × Nat) (w : World) (e : Ending) (w' : World) : Prop :=
  (∃ v, e = endE R.2 v ∧ (R.2 = 0 → ∃ fv A c, v = reqV R.1 fv A c ∧ ReqNew w.heap.size fv A c R.1 w')) ∧ Below w.heap.size w w'
theorem ReqPost.bad {R : ReqL × Nat} {w w' : World} {n : Nat} (h : R.2 = n) (hn : n ≠ 0) (hb : Below w.heap.size w w') : ReqPost R w (.panicked [wrongE n]) w' :=
  ⟨⟨undef, by rw [endE, if_neg (by omega), h], fun h0 => by omega⟩, hb⟩
set_option maxRecDepth 8000 in
set_option maxHeartbeats 8000000 in
theorem request_any (A : Option Addr) (bs : List UInt8) (n c : Nat) (w : World) (hp : PieceOk w ⟨A, c, bs⟩) (hn : bs.length = n) (hl : n ≤ 100000) (hm : MaxOk w) :
    Calls Tryd.prog 39 #[.slice A n c] w (ReqPost (reqL bs) w) := by
  have hfit := hp.fits
  simp only at hfit
  have hnil := hp.nil
  simp only at hnil
  have Z0 := hideIt (QCell.zero w)
  have HZ : Hid (w.alloc zeroQ = w.alloc (.cells #[.string ⟨#[]⟩, .string ⟨#[]⟩, .slice none 0 0, .slice none 0 0] 33)) := hideIt rfl
  have B0 := hideIt (below_new w zeroQ)
  have HN10 := hideIt (fun b w => need_any b 10 w)
  have HLI := hideIt (fun w' (hb : Below w.heap.size w w') => lines_any A bs n c w' (hp.keep hb) hn hl (hm.keep hb))
  have HP := hideIt hp
  have HM := hideIt hm
  obtain ⟨R, hR⟩ : ∃ R, reqL bs = R := ⟨_, rfl⟩
  have HR := hideIt hR
  rw [hR]
  rw [HZ.out] at Z0 B0
  clear hp hm hR HZ
  cases hL : linesL bs with
  | none =>
    have E : Hid (R = (ReqZ, 10)) := hideIt (by rw [← HR.out, req_none hL])
    have hT : linesT bs = ([], 0, false) := by unfold linesT; rw [hL]
    rw [hT] at HLI
    clear hL hT
    go_enter Tryd.func39, Tryd.ntmps39
    go_wp2_with fail
    refine (HLI.out _ B0.out).mono ?_
    rintro e u1 ⟨lv, rfl, _, hb⟩
    have B1 := hideIt (below_then B0.out hb)
    clear hb HLI
    go_wp2_with fail
    refine (HN10.out _ _).mono ?_
    rintro e u2 ⟨rfl, ⟨h, rfl⟩ | ⟨h, rfl⟩⟩
    · cases h
    go_wp2_with fail
    exact ⟨rfl, .bad (by rw [E.out]) (by decide) B1.out⟩
  | some z =>
    obtain ⟨ls, r⟩ := z
    have hT : linesT bs = (ls, n - r.length, true) := by unfold linesT; rw [hL, hn]
    rw [hT] at HLI
    obtain ⟨hl1, hl2, hl3⟩ := lines_len hL
    cases ls with
    | nil =>
      have E : Hid (R = (ReqZ, 10)) := hideIt (by rw [← HR.out, req_some hL]; rfl)
      clear hL hT hl1 hl2 hl3
      generalize n - r.length = en at *
      go_enter Tryd.func39, Tryd.ntmps39
      go_wp2_with fail
      refine (HLI.out _ B0.out).mono ?_
      rintro e u1 ⟨lv, rfl, ho, hb⟩
      have B1 := hideIt (below_then B0.out hb)
      obtain ⟨LA, lc, rfl, _⟩ := ho.open
      clear hb HLI ho
      go_wp2_with fail
      refine (HN10.out _ _).mono ?_
      rintro e u2 ⟨rfl, ⟨h, rfl⟩ | ⟨h, rfl⟩⟩
      · cases h
      go_wp2_with fail
      exact ⟨rfl, .bad (by rw [E.out]) (by decide) B1.out⟩
    | cons x ls =>
      have E : Hid (R = afterL (x :: ls) r) := hideIt (by rw [← HR.out, req_some hL])
      obtain ⟨en, hen⟩ : ∃ en, n - r.length = en := ⟨_, rfl⟩
      rw [hn, hen] at hl3
      rw [hen] at HLI hT
      have hrl : r.length ≤ n := by omega
      have HXL : Hid (x.length ≤ 100000) := hideIt (by have := hl2 x (by simp); omega)
      have HLL : Hid (∀ y ∈ ls, y.length ≤ 100000) := hideIt fun y hy => by have := hl2 y (by simp [hy]); omega
      have hln : ls.length ≤ 100000 := by have := hl1; simp at this; omega
      have hel : en ≤ n := by omega
      have her : n - en = r.length := by omega
      obtain ⟨A1, s1, s2, s3, s4⟩ := slice_lo A n c en hel (by omega) hnil
      have HPR : Hid (∀ w', Below w.heap.size w w' → PieceOk w' ⟨A1, c - en, r⟩) := hideIt fun w' hb => by
        have := piece_of A1 bs n c en w' A (HP.out.keep hb) hn hel s2 s4
        rwa [hl3] at this
      rw [her] at s1
      have HASK := hideIt (fun w' (hb : Below w.heap.size w w') => asked_any x w' HXL.out (HM.out.keep hb))
      have HFL := hideIt (fields_len HLL.out)
      have HFF : Hid ((fieldsL ls).1.length ≤ 40) := hideIt fields_few
      clear hL hT hl1 hl2 hl3 hen hel her s2 s3 s4 hrl
      generalize c - en = c1 at *
      go_enter Tryd.func39, Tryd.ntmps39
      go_wp2_with fail
      refine (HLI.out _ B0.out).mono ?_
      rintro e u1 ⟨lv, rfl, ho, hb⟩
      have B1 := hideIt (below_then B0.out hb)
      have Z1 := hideIt (Z0.out.keep hb Z0.out.lt)
      obtain ⟨LA, lc, rfl, hlc, hlm, hst⟩ := ho.open
      obtain ⟨LA1, t1, t2⟩ := slice_strs LA (x :: ls).length lc (by simp) hlc
      have HST := hideIt hst
      have HT2 := hideIt (fun w' (hb : Below u1.heap.size u1 w') => t2 w' (x :: ls) rfl (hst.keep hb))
      obtain ⟨lb, rfl, hlb, hlcell⟩ := hst (by simp)
      have k0 := hlcell 0 x rfl
      have hgt : (0 : Int) < ((x :: ls).length : Int) := by rw [List.length_cons]; omega
      have hnn : (x :: ls).length - 1 = ls.length := by simp
      rw [hnn] at t1
      clear hb HLI ho Z0 B0 hst t2 hlcell hlc hlm hnn
      generalize (x :: ls).length = nl at *
      go_wp2_with fail
      refine (HN10.out _ _).mono ?_
      rintro e u2 ⟨rfl, ⟨h, rfl⟩ | ⟨h, rfl⟩⟩
      case inr => exact absurd hgt (by have := of_decide_eq_false h; omega)
      clear h HN10
      go_wp2_with fail
      refine (HASK.out _ B1.out).mono ?_
      rintro e u2 ⟨he, hb⟩
      have B2 := hideIt (below_then B1.out hb)
      have Z2 := hideIt (Z1.out.keep hb Z1.out.lt)
      have S2 := hideIt (HT2.out _ hb)
      have BB2 := hideIt hb
      clear hb HASK Z1 k0
      by_cases hf : (firstL x).2 = 0
      case neg =>
        obtain ⟨k, hk⟩ : ∃ k, (firstL x).2 = k := ⟨_, rfl⟩
        have E2 : Hid (R.2 = k ∧ k ≠ 0) := hideIt ⟨by rw [E.out, after_first hf, hk], by omega⟩
        rw [endE, if_neg hf, hk] at he
        subst he
        clear hk hf
        go_wp2_with fail
        exact ⟨rfl, .bad E2.out.1 E2.out.2 B2.out⟩
      rw [endE, if_pos hf] at he
      subst he
      have HFO := hideIt (fun w' (hs : StrsOff w' LA1 ls) => fieldsOf_any LA1 ls.length (lc - 1) ls w' hs rfl HLL.out hln)
      rw [List.drop_one, List.tail_cons] at S2
      generalize lc - 1 = lc1 at *
      go_wp2_with fail
      refine (HFO.out _ S2.out).mono ?_
      rintro e u3 ⟨⟨fv, he, hfo⟩, hb⟩
      have B3 := hideIt (below_then B2.out hb)
      have Z3 := hideIt (Z2.out.keep hb Z2.out.lt)
      have HZ2 : Hid (w.heap.size + 1 ≤ u2.heap.size) := hideIt Z2.out.lt
      clear hb HFO S2 Z2 HT2 BB2
      by_cases hg : (fieldsL ls).2 = 0
      case neg =>
        obtain ⟨k, hk⟩ : ∃ k, (fieldsL ls).2 = k := ⟨_, rfl⟩
        have E2 : Hid (R.2 = k ∧ k ≠ 0) := hideIt ⟨by rw [E.out, after_fields hf hg, hk], by omega⟩
        rw [endE, if_neg hg, hk] at he
        subst he
        clear hk hg hf hfo
        go_wp2_with fail
        exact ⟨rfl, .bad E2.out.1 E2.out.2 B3.out⟩
      rw [endE, if_pos hg] at he
      subst he
      have OW := hideIt ((hfo hg).base (base' := w.heap.size + 1) HZ2.out)
      obtain ⟨FA, fc, rfl, f1, f2, f3, f4⟩ := (hfo hg).reads.form
      rw [after_body hf hg] at E
      obtain ⟨m, hm'⟩ : ∃ m, (firstL x).1.1 = m := ⟨_, rfl⟩
      obtain ⟨p, hp'⟩ : ∃ p, (firstL x).1.2 = p := ⟨_, rfl⟩
      obtain ⟨fs, hfs⟩ : ∃ fs, (fieldsL ls).1 = fs := ⟨_, rfl⟩
      rw [hfs] at E HFL HFF f1 f4 hfo OW ⊢
      rw [hm', hp'] at E ⊢
      have F4 := hideIt f4
      have HAL : Hid (∀ nm : List UInt8, nm.length ≤ 100 → ∀ w', PairsAt w' FA fs → Calls Tryd.prog 53 #[.slice FA fs.length fc, .string (strOf nm)] w' fun e w'' => ∃ v, e = .returned v ∧ SOwn w'.heap.size v (allL fs nm) w'' ∧ Below w'.heap.size w' w'') :=
        hideIt fun nm h w' hpa => hall_any FA fs.length fc fs nm w' hpa rfl (by have := HFF.out; omega) (by omega) (fun y hy => by have := HFL.out y hy; omega) f1 f2
      have HA1 := hideIt (HAL.out lengL (by decide))
      have HA2 := hideIt (HAL.out hostL (by decide))
      have HA3 := hideIt (HAL.out codeL (by decide))
      have hs1 : strOf lengL = ⟨#[67, 111, 110, 116, 101, 110, 116, 45, 76, 101, 110, 103, 116, 104]⟩ := rfl
      have hs2 : strOf hostL = ⟨#[72, 111, 115, 116]⟩ := rfl
      have hs3 : strOf codeL = ⟨#[84, 114, 97, 110, 115, 102, 101, 114, 45, 69, 110, 99, 111, 100, 105, 110, 103]⟩ := rfl
      rw [hs1] at HA1
      rw [hs2] at HA2
      rw [hs3] at HA3
      have HTL : Hid (∀ t ∈ allL fs lengL, t.length ≤ 100000) := hideIt fun t ht => by
        obtain ⟨q, hq, rfl⟩ := all_in t ht
        exact (HFL.out q hq).2
      have HBH : Hid ((allL fs hostL).length ≠ 1 → R.2 = 14) := hideIt fun h => by rw [E.out, body_host h]; rfl
      have HBC : Hid ((allL fs codeL).length ≠ 0 → R.2 = 14) := hideIt fun h => by rw [E.out, body_code h]; rfl
      have HBL : Hid (¬ (allL fs lengL).length ≤ 1 → R.2 = 14) := hideIt fun h => by rw [E.out, body_leng h]; rfl
      have HBW : Hid ((allL fs hostL).length = 1 → (allL fs codeL).length = 0 → (allL fs lengL).length ≤ 1 → R = if wantL (allL fs lengL) = some r.length then (⟨m, p, fs, r⟩, 0) else (ReqZ, 13)) := hideIt fun h1 h2 h3 => by
        rw [E.out, body_want h1 h2 h3]
        by_cases h : wantL (allL fs lengL) = some r.length
        · simp [h]
        · simp [h]
      clear hs1 hs2 hs3 HAL f1 f3 f4 hfo hf hg hm' hp' hfs E HFL HR HLL HXL
      generalize allL fs lengL = tl at *
      generalize allL fs hostL = th at *
      generalize allL fs codeL = tc at *
      generalize hnf : fs.length = nf at *
      have HN14 := hideIt (fun b w => need_any b 14 w)
      have HN13 := hideIt (fun b w => need_any b 13 w)
      go_wp2_with fail
      refine (HA1.out _ F4.out).mono ?_
      rintro e u4 ⟨v1, rfl, ho, hb⟩
      have B4 := hideIt (below_then B3.out hb)
      have Z4 := hideIt (Z3.out.keep hb Z3.out.lt)
      have F5 := hideIt (F4.out.keep hb)
      replace OW := hideIt (OW.out.keep hb)
      obtain ⟨TA, tcap, rfl, _, _, hst⟩ := ho.open
      have T4 := hideIt hst
      clear hb ho HA1 B3 Z3 F4 hst
      go_wp2_with fail
      refine (HA2.out _ F5.out).mono ?_
      rintro e u5 ⟨v2, rfl, ho, hb⟩
      have B5 := hideIt (below_then B4.out hb)
      have Z5 := hideIt (Z4.out.keep hb Z4.out.lt)
      have F6 := hideIt (F5.out.keep hb)
      replace OW := hideIt (OW.out.keep hb)
      have T5 := hideIt (T4.out.keep hb)
      obtain ⟨HA_, hcap, rfl, _⟩ := ho.open
      clear hb ho HA2 B4 Z4 F5 T4
      go_wp2_with fail
      refine (HN14.out _ _).mono ?_
      rintro e u6 ⟨rfl, ⟨h, rfl⟩ | ⟨h, rfl⟩⟩
      case inr =>
        have E2 : Hid (R.2 = 14) := hideIt (HBH.out fun h' => by rw [h'] at h; cases h)
        go_wp2_with fail
        exact ⟨rfl, .bad E2.out (by decide) B5.out⟩
      have hh : th.length = 1 := by have := eq_of_beq h; omega
      have HBW2 := hideIt (HBW.out hh)
      clear h hh HBH HBW
      go_wp2_with fail
      refine (HA3.out _ F6.out).mono ?_
      rintro e u7 ⟨v3, rfl, ho, hb⟩
      have B7 := hideIt (below_then B5.out hb)
      have Z7 := hideIt (Z5.out.keep hb Z5.out.lt)
      have F7 := hideIt (F6.out.keep hb)
      replace OW := hideIt (OW.out.keep hb)
      have T7 := hideIt (T5.out.keep hb)
      obtain ⟨CA, ccap, rfl, _⟩ := ho.open
      clear hb ho HA3 B5 Z5 F6 T5
      go_wp2_with fail
      refine (HN14.out _ _).mono ?_
      rintro e u6 ⟨rfl, ⟨h, rfl⟩ | ⟨h, rfl⟩⟩
      case inr =>
        have E2 : Hid (R.2 = 14) := hideIt (HBC.out fun h' => by rw [h'] at h; cases h)
        go_wp2_with fail
        exact ⟨rfl, .bad E2.out (by decide) B7.out⟩
      have hh : tc.length = 0 := by have := eq_of_beq h; omega
      have HBW3 := hideIt (HBW2.out hh)
      clear h hh HBC HBW2
      go_wp2_with fail
      refine (HN14.out _ _).mono ?_
      rintro e u6 ⟨rfl, ⟨h, rfl⟩ | ⟨h, rfl⟩⟩
      case inr =>
        have E2 : Hid (R.2 = 14) := hideIt (HBL.out fun h' => by
          have := of_decide_eq_false h
          omega)
        go_wp2_with fail
        exact ⟨rfl, .bad E2.out (by decide) B7.out⟩
      have hh : tl.length ≤ 1 := by
        have := of_decide_eq_true h
        omega
      have HBW4 := hideIt (HBW3.out hh)
      clear h hh HBL HBW3 HN14
      have HSZ : Hid (∀ w', Below u7.heap.size u7 w' → Calls Tryd.prog 54 #[.slice TA tl.length tcap] w' fun e w'' => e = endN (wantL tl) ∧ Below w'.heap.size w' w'') := hideIt fun w' hb => size_any TA tl.length tcap tl w' (T7.out.keep hb) rfl HTL.out
      have HCL : Hid (∀ w', Below w.heap.size w w' → Calls Tryd.prog 55 #[.slice A1 r.length c1] w' fun e w'' => ∃ A' c', e = .returned (.slice A' r.length c') ∧ PieceOk w'' ⟨A', c', r⟩ ∧ (∀ k, k < w'.heap.size → Apart A' r k) ∧ Below w'.heap.size w' w'') := hideIt fun w' hb => bclone_any A1 r r.length c1 w' (HPR.out w' hb) rfl
      cases hw : wantL tl with
      | none =>
        rw [hw] at HSZ HBW4
        have E2 : Hid (R.2 = 13) := hideIt (by rw [HBW4.out]; rfl)
        unfold endN at HSZ
        simp only at HSZ
        clear hw HBW4 HN13 HCL
        go_wp2_with fail
        refine wp_region_any (by kernel_rfl) ?_
        change wpAny _ _ _ _ _ _ _ (World.drew _)
        refine wpAny_take (i := 0) (v := .slice A n c) rfl (by kernel_rfl) (by kernel_rfl) (by kernel_rfl) (fun _ _ _ h => h) (Or.inl ⟨by rfl, ?_⟩) ?_
        · intro w; go_simp
        simp only [List.getElem_toArray, List.getElem_cons_succ, List.getElem_cons_zero, Act.put, List.setIfInBounds_toArray, List.set_cons_succ, List.set_cons_zero]
        refine wpAny_take (i := 1) (v := .int .i64 (en : Int)) rfl (by kernel_rfl) (by kernel_rfl) (by kernel_rfl) (fun _ _ _ h => h) (Or.inl ⟨by rfl, ?_⟩) ?_
        · intro w; go_simp
        simp only [List.getElem_toArray, List.getElem_cons_succ, List.getElem_cons_zero, Act.put, List.setIfInBounds_toArray, List.set_cons_succ, List.set_cons_zero]
        refine wpAny_take (i := 2) (v := .slice A1 r.length c1) rfl (by kernel_rfl) (by kernel_rfl) (by kernel_rfl) (fun _ _ _ h => h) (Or.inl ⟨by rfl, ?_⟩) ?_
        · intro w; simp [execOp, Act.eval, Instr.sliceAt, s1]
        simp only [List.getElem_toArray, List.getElem_cons_succ, List.getElem_cons_zero, Act.put, List.setIfInBounds_toArray, List.set_cons_succ, List.set_cons_zero]
        refine wpAny_take (i := 3) (v := .int .i64 (r.length : Int)) rfl (by kernel_rfl) (by kernel_rfl) (by kernel_rfl) (fun _ _ _ h => h) (Or.inl ⟨by rfl, ?_⟩) ?_
        · intro w; go_simp
        simp only [List.getElem_toArray, List.getElem_cons_succ, List.getElem_cons_zero, Act.put, List.setIfInBounds_toArray, List.set_cons_succ, List.set_cons_zero]
        refine wpAny_take (i := 4) (v := .slice TA tl.length tcap) rfl (by kernel_rfl) (by kernel_rfl) (by kernel_rfl) (fun _ _ _ h => h) (Or.inl ⟨by rfl, ?_⟩) ?_
        · intro w; go_simp
        simp only [List.getElem_toArray, List.getElem_cons_succ, List.getElem_cons_zero, Act.put, List.setIfInBounds_toArray, List.set_cons_succ, List.set_cons_zero]
        refine wpAny_ready (rs := [5]) (by kernel_rfl) (by simp) (AllReady.cons rfl (fun K hK => ?_) AllReady.nil)
        rw [if_pos (by simp [Region.wanted])]
        refine wp_callP _ _ _ rfl #[.slice TA tl.length tcap] (by simp [Act.eval]) go_size (HSZ.out _ (by exact (Below.refl _ _).drew)) ?_
        rintro e w9 ⟨rfl, hb⟩
        exact .inr ⟨_, rfl, rfl, .bad E2.out (by decide) (below_then B7.out.drew hb)⟩
      | some k =>
        rw [hw] at HSZ HBW4
        unfold endN at HSZ
        simp only at HSZ
        clear hw
        by_cases hk : k = r.length
        · subst hk
          have E2 : Hid (R = (⟨m, p, fs, r⟩, 0)) := hideIt (by rw [HBW4.out]; simp)
          clear HBW4
          have HNO := hideIt (fun w => need_ok 13 w)
          go_wp2_with fail
          refine region_tail 7 [Fact.is (.slice A n c), Fact.is (.int .i64 (en : Int)), Fact.is (.slice A1 r.length c1), Fact.is (.int .i64 ((r.length : Nat) : Int)), Fact.is (.slice TA tl.length tcap), Fact.is (.int .i64 (r.length : Int)), Fact.is (.bool true)] (by kernel_rfl) (by kernel_rfl) (by kernel_rfl) ⟨fun a w1 m => ?_, fun a w1 m => ?_, fun a w1 m => ?_, fun a w1 m => ?_, fun a w1 m => ?_, fun a w1 m => ?_, fun a w1 m => ?_, trivial⟩ ?_
          · exact ok_move (wanted_none rfl) (.tmp 0) rfl (m.old 0 rfl)
          · exact ok_move (wanted_none rfl) (.tmp 4) rfl (m.old 4 rfl)
          · exact ok_sliceR (wanted_none rfl) (.tmp 49) (.tmp 50) rfl _ _ _ (m.has 0 49 rfl rfl) (m.has 1 50 rfl rfl) s1
          · exact ok_len (wanted_none rfl) (.tmp 51) rfl _ _ _ (m.has 2 51 rfl rfl)
          · exact ok_move (wanted_none rfl) (.tmp 9) rfl (m.old 9 rfl)
          · exact ok_fn (wanted_none rfl) _ _ _ rfl _ (map1 (m.has 4 53 rfl rfl)) go_size (HSZ.out w1 m.grew) (fun e w' ⟨h1, h2⟩ => ⟨_, h1, rfl, h2⟩)
          · exact ok_inteq (wanted_none rfl) (.tmp 52) (.tmp 54) _ rfl _ _ (m.has 3 52 rfl rfl) (m.has 5 54 rfl rfl) _ (decide_eq_true rfl)
          intro f w9 hg hf
          have e6 : f 6 = .bool true := hf 6 (by decide)
          have B9 := hideIt (below_then B7.out hg)
          have F9 := hideIt (F7.out.keep hg)
          replace OW := hideIt (OW.out.keep hg)
          have Z9 := hideIt (Z7.out.keep hg Z7.out.lt)
          clear hf hg
          simp only [List.take, List.drop, putAll, Act.put, List.setIfInBounds_toArray, List.set_cons_succ, List.set_cons_zero]
          rw [e6]
          clear e6
          go_wp2_with fail
          refine (HNO.out _).mono ?_
          rintro e w8 ⟨rfl, rfl⟩
          go_wp2_with fail
          refine (HCL.out _ B9.out).mono ?_
          rintro e w10 ⟨A', c', rfl, hbp, hap, hb⟩
          have HAP := hideIt (hap w.heap.size Z9.out.lt)
          have HAPA : Hid (∀ k, k < w.heap.size → Apart A' r k) := hideIt fun k hk => hap k (by have := Z9.out.lt; omega)
          have O10 := hideIt (OW.out.keep hb)
          have B10 := hideIt (below_then B9.out hb)
          have HBP := hideIt hbp
          have F10 := hideIt (F9.out.keep hb)
          have Z10 := Z9.out.keep hb Z9.out.lt
          have q0 := Z10.fz 0
          have q1 := Z10.fz 1
          have q2 := Z10.fz 2
          have q3 := Z10.fz 3
          have k0 := Z10.c0
          have k1 := Z10.c1
          have k2 := Z10.c2
          have k3 := Z10.c3
          have ZS := hideIt (Z10.set (.string (strOf m)) (.string (strOf p)) (.slice FA nf fc) (.slice A' r.length c'))
          have BS := hideIt (below_setQ B10.out (Nat.le_refl _) (.string (strOf m)) (.string (strOf p)) (.slice FA nf fc) (.slice A' r.length c'))
          have GS := hideIt (grown_setQ w10 w.heap.size (.string (strOf m)) (.string (strOf p)) (.slice FA nf fc) (.slice A' r.length c'))
          clear hbp hb Z10 hap
          go_wp2_with fail
          (try simp only [Exit.inBlock, Exit.then])
          refine bodyPost_ret (results_Q Tryd.results39 _ _ w.heap.size (.string (strOf m)) (.string (strOf p)) (.slice FA nf fc) (.slice A' r.length c') rfl (by exact ZS.out)) rfl ?_
          refine ⟨⟨_, by rw [E2.out]; rfl, fun _ => ⟨.slice FA nf fc, A', c', by rw [E2.out]; rfl, ?_⟩⟩, BS.out⟩
          rw [E2.out]
          exact ⟨(O10.out.block fun i hi => GS.out.block i (O10.out.lt i hi).2 (fun e => by cases e; have := (O10.out.lt _ hi).1; omega)).base (by omega), HBP.out.grown GS.out HAP.out, HAPA.out⟩
        · have E2 : Hid (R.2 = 13) := hideIt (by rw [HBW4.out, if_neg (by simpa using hk)])
          have hne : ((r.length : Int) == (k : Int)) = false := by rw [beq_eq_false_iff_ne]; omega
          have HKN := hideIt hk
          clear HBW4 HCL hk
          have HNB := hideIt (fun w => need_bad 13 w)
          go_wp2_with fail
          refine region_tail 7 [Fact.is (.slice A n c), Fact.is (.int .i64 (en : Int)), Fact.is (.slice A1 r.length c1), Fact.is (.int .i64 ((r.length : Nat) : Int)), Fact.is (.slice TA tl.length tcap), Fact.is (.int .i64 (k : Int)), Fact.is (.bool false)] (by kernel_rfl) (by kernel_rfl) (by kernel_rfl) ⟨fun a w1 m => ?_, fun a w1 m => ?_, fun a w1 m => ?_, fun a w1 m => ?_, fun a w1 m => ?_, fun a w1 m => ?_, fun a w1 m => ?_, trivial⟩ ?_
          · exact ok_move (wanted_none rfl) (.tmp 0) rfl (m.old 0 rfl)
          · exact ok_move (wanted_none rfl) (.tmp 4) rfl (m.old 4 rfl)
          · exact ok_sliceR (wanted_none rfl) (.tmp 49) (.tmp 50) rfl _ _ _ (m.has 0 49 rfl rfl) (m.has 1 50 rfl rfl) s1
          · exact ok_len (wanted_none rfl) (.tmp 51) rfl _ _ _ (m.has 2 51 rfl rfl)
          · exact ok_move (wanted_none rfl) (.tmp 9) rfl (m.old 9 rfl)
          · exact ok_fn (wanted_none rfl) _ _ _ rfl _ (map1 (m.has 4 53 rfl rfl)) go_size (HSZ.out w1 m.grew) (fun e w' ⟨h1, h2⟩ => ⟨_, h1, rfl, h2⟩)
          · exact ok_inteq (wanted_none rfl) (.tmp 52) (.tmp 54) _ rfl _ _ (m.has 3 52 rfl rfl) (m.has 5 54 rfl rfl) _ (decide_eq_false (by have := HKN.out; omega))
          intro f w9 hg hf
          have e6 : f 6 = .bool false := hf 6 (by decide)
          have B9 := hideIt (below_then B7.out hg)
          have F9 := hideIt (F7.out.keep hg)
          replace OW := hideIt (OW.out.keep hg)
          have Z9 := hideIt (Z7.out.keep hg Z7.out.lt)
          clear hf hg
          simp only [List.take, List.drop, putAll, Act.put, List.setIfInBounds_toArray, List.set_cons_succ, List.set_cons_zero]
          rw [e6]
          clear e6
          go_wp2_with fail
          refine (HNB.out _).mono ?_
          rintro e w8 ⟨rfl, rfl⟩
          go_wp2_with fail
          exact ⟨rfl, .bad E2.out (by decide) B9.out⟩
theorem go_request : goFn Tryd.prog 39 = true := by kernel_rfl
end Go.Proofs.YtbojigimldfghaaDoor

/- Contract of http.Parse: what a request panics with is caught. -/
namespace Go.Proofs.YtbojigimldfghaaDoor
open Go.ChangeShapes Go.WideShapes Go.ChangeAt Go.RowKit
set_option linter.unusedVariables false
set_option linter.unusedSimpArgs false

/-- the deferred function, where nothing was panicked with -/
theorem catch_idle (p : Addr) (w : World) :
    CallsD Tryd.prog 49 #[.pointer (some p)] .returning w fun e u' w' => e = .returned (.tuple #[]) ∧ u' = .returning ∧ w' = w := by
  refine callsD_of_wpS Tryd.func49 rfl fun c₀ cs hu => ?_
  apply wpS_seq
  apply wpS_region
  simp [wpOpsS, go_sem, recoverD, hu, Tryd.ntmps49, Exit.thenS]
  apply wpS_seq
  apply wpS_seq
  apply wpS_region
  simp [wpOpsS, go_sem, Exit.thenS]
  refine wpS_cond (t := true) (by simp [Act.eval, Array.replicate]) ?_
  simp only [if_true]
  refine wpS_of_wp (wp_ret ?_)
  cases c₀
  simp_all [bodyPostS, results, Tryd.results49, Exit.thenS]
/-- the error's cell -/
def ECell (w : World) (g : Nat) (x : Int) : Prop := w.heap[g]? = some (.cells #[.int .u16 x] 24 (0, 0))
theorem ECell.lt {w : World} {g : Nat} {x : Int} (h : ECell w g x) : g < w.heap.size := (Array.getElem?_eq_some_iff.1 h).1
theorem ECell.c {w : World} {g : Nat} {x : Int} (h : ECell w g x) : w.cell? ⟨g, 0, none⟩ = some (.int .u16 x) := by rw [cell_of_row w g 0 _ _ _ h]; rfl
theorem ECell.fz {w : World} {g : Nat} {x : Int} (h : ECell w g x) : w.frozen? ⟨g, 0, none⟩ = false := by unfold ECell at h; simp [World.frozen?, h]
theorem ECell.new (w : World) (x : Int) : ECell (w.alloc (.cells #[.int .u16 x] 24)) w.heap.size x := heap_alloc_new w _
theorem ECell.keep {w w' : World} {g : Nat} {x : Int} (h : ECell w g x) (hb : w'.heap[g]? = w.heap[g]?) : ECell w' g x := hb.trans h
theorem ECell.set {w : World} {g : Nat} {x : Int} (h : ECell w g x) (y : Int) : ECell (w.setCell ⟨g, 0, none⟩ (.int .u16 y)) g y := by
  have hlt := h.lt
  unfold ECell at h ⊢
  have h' : w.heap[g] = .cells #[.int .u16 x] 24 (0, 0) := (Array.getElem?_eq_some_iff.1 h).2
  rw [Array.getElem?_eq_some_iff]
  refine ⟨by simpa [World.setCell] using hlt, ?_⟩
  simp only [World.setCell]
  rw [Array.getElem_modify, if_pos rfl, h']
  rfl
/-- what the deferred function leaves where a request panicked -/
def wrongW (w : World) (g n : Nat) : World := (w.alloc (.cells #[.int .u16 (n : Int)] 85)).setCell ⟨g, 0, none⟩ (.int .u16 (n : Int))
set_option maxRecDepth 100000 in
set_option maxHeartbeats 2000000 in
/-- .. where a request panicked -/
theorem catch_wrong (g : Nat) (n : Nat) (x : Int) (older : List PanicEntry) (w : World) (h : ECell w g x) :
    CallsD Tryd.prog 49 #[.pointer (some ⟨g, 0, none⟩)] (.panicking ({ v := wrongV n, recovered := false } :: older)) w fun e u' w' =>
      e = .returned (.tuple #[]) ∧ u' = .panicking ({ v := wrongV n, recovered := true } :: older) ∧ w' = wrongW w g n := by
  unfold wrongV wrongW
  have hta : ∀ w : World, (Instr.typeAssert (.iface 85 (.agg #[.int .u16 (n : Int)])) 20 85 true).run Tryd.prog w = .ok (.tuple #[.agg #[.int .u16 (n : Int)], .bool true]) w := fun w => by kernel_rfl
  have h2 : ECell (w.alloc (.cells #[.int .u16 (n : Int)] 85)) g x := h.keep ((below_new w _).block _ h.lt)
  have hc := h2.c
  have hz := h2.fz
  refine callsD_of_wpS Tryd.func49 rfl fun c₀ cs hu => ?_
  apply wpS_seq
  apply wpS_region
  simp [wpOpsS, go_sem, recoverD, hu, Tryd.ntmps49, Exit.thenS]
  apply wpS_seq
  apply wpS_seq
  apply wpS_region
  simp [wpOpsS, go_sem, Exit.thenS]
  refine wpS_cond (t := false) (by simp [Act.eval, Array.replicate]) ?_
  simp only [Bool.false_eq_true, if_false]
  refine wpS_of_wp (wp_skip ?_)
  simp only [Exit.thenS]
  refine wpS_of_wp ?_
  simp only [Array.replicate_succ, Array.replicate_zero, List.push_toArray, List.setIfInBounds_toArray, List.set_cons_succ, List.set_cons_zero, List.append_toArray, List.nil_append, List.cons_append]
  go_wp2
  cases c₀
  simp [bodyPostS, results, Tryd.results49]
theorem wrongW_grown (w : World) (g n : Nat) : w.grownBy (wrongW w g n) (some g) :=
  grown_then (grown_below (below_new w _) (some g)) (grown_cellB _ g 0 _)
theorem wrongW_cell {w : World} {g n : Nat} {x : Int} (h : ECell w g x) : ECell (wrongW w g n) g (n : Int) :=
  (h.keep ((below_new w _).block _ h.lt)).set _

/-- the function that Parse has caught: what it leaves of q's cells -/
def PClos (R : ReqL × Nat) (gq : Nat) (w : World) (e : Ending) (w' : World) : Prop :=
  w.grownBy w' (some gq) ∧ ((R.2 = 0 ∧ e = .returned (.tuple #[]) ∧ ∃ fv A c, QCell w' gq (.string (strOf R.1.m)) (.string (strOf R.1.p)) fv (.slice A R.1.body.length c) ∧ ReqNew w.heap.size fv A c R.1 w') ∨ (R.2 ≠ 0 ∧ e = .panicked [wrongE R.2] ∧ QCell w' gq (.string ⟨#[]⟩) (.string ⟨#[]⟩) (.slice none 0 0) (.slice none 0 0)))
set_option maxRecDepth 8000 in
set_option maxHeartbeats 2000000 in
theorem pclos_any (gb gq : Nat) (A : Option Addr) (bs : List UInt8) (n c : Nat) (w : World) (hc : w.cell? ⟨gb, 0, none⟩ = some (.slice A n c)) (hq : QCell w gq (.string ⟨#[]⟩) (.string ⟨#[]⟩) (.slice none 0 0) (.slice none 0 0)) (hp : PieceOk w ⟨A, c, bs⟩) (hn : bs.length = n) (hl : n ≤ 100000) (hm : MaxOk w) :
    Calls Tryd.prog 38 #[.pointer (some ⟨gb, 0, none⟩), .pointer (some ⟨gq, 0, none⟩)] w (PClos (reqL bs) gq w) := by
  have HRQ := hideIt (request_any A bs n c w hp hn hl hm)
  have HQ := hideIt hq
  obtain ⟨R, hR⟩ : ∃ R, reqL bs = R := ⟨_, rfl⟩
  rw [hR] at HRQ ⊢
  clear hq hp hm hR
  by_cases h0 : R.2 = 0
  · have H0 := hideIt h0
    go_enter Tryd.func38, Tryd.ntmps38
    go_wp2_with fail
    refine HRQ.out.mono ?_
    rintro e w2 ⟨⟨v, he, hk⟩, hb⟩
    obtain ⟨fv, A', c', rfl, hnew⟩ := hk h0
    obtain ⟨FA, fc, rfl, _⟩ := hnew.fields.open
    rw [endE, if_pos h0] at he
    subst he
    generalize hfl : R.1.fs.length = fl at *
    have Z := HQ.out.keep hb HQ.out.lt
    have q0 := Z.fz 0
    have q1 := Z.fz 1
    have q2 := Z.fz 2
    have q3 := Z.fz 3
    have k0 := Z.c0
    have k1 := Z.c1
    have k2 := Z.c2
    have k3 := Z.c3
    have ZS := hideIt (Z.set (.string (strOf R.1.m)) (.string (strOf R.1.p)) (.slice FA fl fc) (.slice A' R.1.body.length c'))
    have GS := hideIt (grown_setQ w2 gq (.string (strOf R.1.m)) (.string (strOf R.1.p)) (.slice FA fl fc) (.slice A' R.1.body.length c'))
    have NW := hideIt (hnew.grown GS.out HQ.out.lt)
    have G2 := hideIt (grown_then (grown_below hb (some gq)) GS.out)
    clear hb hnew Z h0
    unfold reqV
    go_wp2_with fail
    first | go_end0 | go_ret
    exact ⟨G2.out, .inl ⟨H0.out, rfl, .slice FA fl fc, A', c', ZS.out, NW.out⟩⟩
  · have H0 := hideIt h0
    go_enter Tryd.func38, Tryd.ntmps38
    go_wp2_with fail
    refine HRQ.out.mono ?_
    rintro e w2 ⟨⟨v, he, _⟩, hb⟩
    rw [endE, if_neg h0] at he
    subst he
    have Z := hideIt (HQ.out.keep hb HQ.out.lt)
    have G2 := hideIt (grown_below hb (some gq))
    clear hb h0
    go_wp2_with fail
    exact ⟨rfl, G2.out, .inr ⟨H0.out, rfl, Z.out⟩⟩
theorem go_pclos : goFn Tryd.prog 38 = true := by kernel_rfl

/-- what is left of q, and which error is told -/
def PCaught (R : ReqL × Nat) (gq : Nat) (w : World) (e : Ending) (w' : World) : Prop :=
  w.grownBy w' (some gq) ∧ e = .returned (.int .u16 (R.2 : Int)) ∧ ((R.2 = 0 ∧ ∃ fv A c, QCell w' gq (.string (strOf R.1.m)) (.string (strOf R.1.p)) fv (.slice A R.1.body.length c) ∧ ReqNew w.heap.size fv A c R.1 w') ∨ (R.2 ≠ 0 ∧ QCell w' gq (.string ⟨#[]⟩) (.string ⟨#[]⟩) (.slice none 0 0) (.slice none 0 0)))
theorem grown_past {w w2 : World} {r : Option Nat} (h : w.grownBy w2 r) (g i : Nat) (v : Value) (hg : w.heap.size ≤ g) : w.grownBy (w2.setCell ⟨g, i, none⟩ v) r :=
  ⟨h.os, h.tape, h.output, by simpa [World.setCell] using h.size, fun k hk hr => (heap_setCell_past _ _ _ _ _ (by omega)).trans (h.block k hk hr)⟩
theorem grown_from {w w1 w2 : World} {g : Nat} (h : Below w.heap.size w w1) (hb : w1.grownBy w2 (some g)) : w.grownBy w2 (some g) := grown_then (grown_below h _) hb
theorem QCell.block {w w' : World} {g : Nat} {m p fv bv : Value} (h : QCell w g m p fv bv) (hb : w'.heap[g]? = w.heap[g]?) : QCell w' g m p fv bv := hb.trans h
/-- an answer: an error in a cell -/
theorem results_E {fn : Func} {q : Tmp} (h : fn.results = #[.cell q 24]) (tmps : Array Value) (w : World) (g : Nat) (x : Int) (hq : tmps.getD q undef = .pointer (some ⟨g, 0, none⟩)) (hA : ECell w g x) :
    (results fn tmps).run Tryd.prog w = .ok (.int .u16 x) w := by
  have e : (results fn tmps).run Tryd.prog w = ((asAddr (tmps.getD q undef)).run Tryd.prog w).andThen fun a w₁ => (loadVar 24 a).run Tryd.prog w₁ := by
    simp only [results, h]
    simp [Sem.run_bind, Result.andThen]
  rw [e, hq]
  have hc := hA.c
  simp [asAddr, Result.andThen]
  go_simp
set_option maxRecDepth 8000 in
set_option maxHeartbeats 2000000 in
theorem caught_any (gb gq : Nat) (R : ReqL × Nat) (w : World) (hlt : gq < w.heap.size) (hz : QCell w gq (.string ⟨#[]⟩) (.string ⟨#[]⟩) (.slice none 0 0) (.slice none 0 0))
    (hcl : ∀ w', Below w.heap.size w w' → Calls Tryd.prog 38 #[.pointer (some ⟨gb, 0, none⟩), .pointer (some ⟨gq, 0, none⟩)] w' (PClos R gq w')) :
    Calls Tryd.prog 37 #[.func (.func 38) #[] #[.pointer (some ⟨gb, 0, none⟩), .pointer (some ⟨gq, 0, none⟩)]] w (PCaught R gq w) := by
  have hmf : ∀ (fn : Fn) (first cap : Array Value) (w : World), (Instr.makeFunc fn first cap).run Tryd.prog w = .ok (.func fn first cap) w := fun _ _ _ _ => rfl
  have HC := hideIt (hcl (w.alloc (.cells #[.int .u16 0] 24)) (below_new w _))
  have E0 := hideIt (ECell.new w 0)
  have GE : Hid (w.heap.size ≠ gq) := hideIt (by omega)
  have G0 := hideIt (grown_below (below_new w (.cells #[.int .u16 0] 24)) (some gq))
  have HLT := hideIt hlt
  have S0 : Hid ((w.alloc (.cells #[.int .u16 0] 24)).heap.size = w.heap.size + 1) := hideIt (alloc_size _ _)
  clear hcl hz
  go_enter_defers Tryd.func37, Tryd.ntmps37
  go_wp2_with fail
  refine HC.out.mono ?_
  rintro e w2 ⟨hg, ⟨h0, rfl, fv, A', c', hq, hnew⟩ | ⟨h0, rfl, hq⟩⟩
  · have E2 := hideIt (E0.out.keep (hg.block _ (by rw [S0.out]; omega) (fun e => GE.out (Option.some.inj e))))
    have c0 := E2.out.c
    have z0 := E2.out.fz
    have P : Hid (PCaught R gq w (.returned (.int .u16 0)) (w2.setCell ⟨w.heap.size, 0, none⟩ (.int .u16 0))) := hideIt ⟨grown_past (grown_from (below_new w _) hg) _ _ _ (Nat.le_refl _), by rw [h0]; rfl, .inl ⟨h0, fv, A', c', hq.block (heap_setCell_past _ _ _ _ _ (fun e => GE.out e.symm)), (hnew.grown (grown_cellB w2 w.heap.size 0 _) (by rw [S0.out]; omega)).base (by rw [S0.out]; omega)⟩⟩
    have ES := hideIt (E2.out.set 0)
    clear hg hq hnew h0
    go_wp2_with fail
    refine leaves_cons (f := 49) (args := #[.pointer (some ⟨w.heap.size, 0, none⟩)]) (by simp) (by simp [go_sem]) ?_
    refine (catch_idle ⟨w.heap.size, 0, none⟩ _).mono ?_
    rintro e u' w3 ⟨rfl, rfl, rfl⟩
    exact ⟨_, results_E Tryd.results37 _ _ w.heap.size 0 rfl ES.out, P.out⟩
  · have E2 := hideIt (E0.out.keep (hg.block _ (by rw [S0.out]; omega) (fun e => GE.out (Option.some.inj e))))
    have P : Hid (PCaught R gq w (.returned (.int .u16 (R.2 : Int))) (wrongW w2 w.heap.size R.2)) := hideIt ⟨grown_past (grown_then (grown_from (below_new w _) hg) (grown_below (below_new w2 _) _)) _ _ _ (Nat.le_refl _), rfl, .inr ⟨h0, hq.block ((heap_setCell_past _ _ _ _ _ (fun e => GE.out e.symm)).trans ((below_new w2 _).block _ hq.lt))⟩⟩
    have ES := hideIt (wrongW_cell (n := R.2) E2.out)
    clear hg hq h0
    go_wp2_with fail
    unfold wrongE
    refine leaves_cons (f := 49) (args := #[.pointer (some ⟨w.heap.size, 0, none⟩)]) (by simp) (by simp [go_sem]) ?_
    refine (catch_wrong w.heap.size R.2 0 [] w2 E2.out).mono ?_
    rintro e u' w3 ⟨rfl, rfl, rfl⟩
    exact ⟨_, results_E Tryd.results37 _ _ w.heap.size _ rfl ES.out, P.out⟩
theorem go_caught : goFn Tryd.prog 37 = true := by kernel_rfl

/-- what Parse answers -/
def ParsePost (R : ReqL × Nat) (w : World) (e : Ending) (w' : World) : Prop :=
  ∃ fv A c, e = .returned (.tuple #[reqV R.1 fv A c, .int .u16 (R.2 : Int)]) ∧ ReqParts fv A c R.1 w' ∧ Below w.heap.size w w'
theorem req_zero' (b : List UInt8) (h : (reqL b).2 ≠ 0) : (reqL b).1 = ReqZ := req_zero h
set_option maxRecDepth 8000 in
set_option maxHeartbeats 2000000 in
theorem parse_any (A : Option Addr) (bs : List UInt8) (n c : Nat) (w : World) (hp : PieceOk w ⟨A, c, bs⟩) (hn : bs.length = n) (hl : n ≤ 100000) (hm : MaxOk w) :
    Calls Tryd.prog 23 #[.slice A n c] w (ParsePost (reqL bs) w) := by
  have hmf : ∀ (fn : Fn) (first cap : Array Value) (w : World), (Instr.makeFunc fn first cap).run Tryd.prog w = .ok (.func fn first cap) w := fun _ _ _ _ => rfl
  obtain ⟨X1, hX1⟩ : ∃ X, w.alloc (.cells #[.slice A n c] 22) = X := ⟨_, rfl⟩
  have b1 : Below w.heap.size w X1 := by rw [← hX1]; exact below_new w _
  have s1 : X1.heap.size = w.heap.size + 1 := by rw [← hX1, alloc_size]
  have k1 : X1.cell? ⟨w.heap.size, 0, none⟩ = some (.slice A n c) := by rw [← hX1, cell_of_row _ _ _ _ _ _ (heap_alloc_new w _)]; rfl
  obtain ⟨X2, hX2⟩ : ∃ X, X1.alloc zeroQ = X := ⟨_, rfl⟩
  have b2 : Below X1.heap.size X1 X2 := by rw [← hX2]; exact below_new X1 _
  have s2 : X2.heap.size = w.heap.size + 2 := by rw [← hX2, alloc_size, s1]
  have z2 : QCell X2 (w.heap.size + 1) (.string ⟨#[]⟩) (.string ⟨#[]⟩) (.slice none 0 0) (.slice none 0 0) := by rw [← hX2, ← s1]; exact QCell.zero X1
  obtain ⟨X3, hX3⟩ : ∃ X, X2.alloc zeroQ = X := ⟨_, rfl⟩
  have b3 : Below X2.heap.size X2 X3 := by rw [← hX3]; exact below_new X2 _
  have s3 : X3.heap.size = w.heap.size + 3 := by rw [← hX3, alloc_size, s2]
  have z3 : QCell X3 (w.heap.size + 2) (.string ⟨#[]⟩) (.string ⟨#[]⟩) (.slice none 0 0) (.slice none 0 0) := by rw [← hX3, ← s2]; exact QCell.zero X2
  have z2' := z2.keep b3 (by omega)
  have B3 := hideIt (below_then (below_then b1 b2) b3)
  have KC : Hid (X3.cell? ⟨w.heap.size, 0, none⟩ = some (.slice A n c)) := hideIt ((b3.cell (p := ⟨w.heap.size, 0, none⟩) (show w.heap.size < _ by omega)).trans ((b2.cell (p := ⟨w.heap.size, 0, none⟩) (show w.heap.size < _ by omega)).trans k1))
  have Z2 := hideIt z2'
  have Z3 := hideIt z3
  have S3 := hideIt s3
  have HX : Hid (((w.alloc (.cells #[.slice A n c] 22)).alloc (.cells #[.string ⟨#[]⟩, .string ⟨#[]⟩, .slice none 0 0, .slice none 0 0] 33)).alloc (.cells #[.string ⟨#[]⟩, .string ⟨#[]⟩, .slice none 0 0, .slice none 0 0] 33) = X3) := hideIt (by rw [hX1]; exact (congrArg (fun x => World.alloc x zeroQ) hX2).trans hX3)
  have HCL : Hid (∀ w', Below X3.heap.size X3 w' → Calls Tryd.prog 38 #[.pointer (some ⟨w.heap.size, 0, none⟩), .pointer (some ⟨w.heap.size + 2, 0, none⟩)] w' (PClos (reqL bs) (w.heap.size + 2) w')) :=
    hideIt fun w' hb => pclos_any w.heap.size (w.heap.size + 2) A bs n c w' ((hb.cell (p := ⟨w.heap.size, 0, none⟩) (show w.heap.size < _ by omega)).trans KC.out) (z3.keep hb (by omega)) ((hp.keep B3.out).keep hb) hn hl ((hm.keep B3.out).keep hb)
  have HRZ := hideIt (req_zero' bs)
  obtain ⟨R, hR⟩ : ∃ R, reqL bs = R := ⟨_, rfl⟩
  rw [hR] at HCL HRZ ⊢
  have HCA := hideIt (caught_any w.heap.size (w.heap.size + 2) R X3 (by omega) z3 HCL.out)
  clear hR hp hm hX1 b1 s1 k1 hX2 b2 s2 z2 hX3 b3 s3 z3 z2' HCL
  go_enter Tryd.func23, Tryd.ntmps23
  go_wp2_with fail
  rw [HX.out]
  refine HCA.out.mono ?_
  rintro e w4 ⟨hg, rfl, hcase⟩
  have hb4 : Below w.heap.size w w4 := B3.out.grown hg (by rw [S3.out]; omega) (fun j hj => by cases hj; omega)
  have Z4 := Z2.out.block (hg.block (w.heap.size + 1) (by rw [S3.out]; omega) (fun e => by have := Option.some.inj e; omega))
  have B4 := hideIt hb4
  have q0 := Z4.fz 0
  have q1 := Z4.fz 1
  have q2 := Z4.fz 2
  have q3 := Z4.fz 3
  have k0 := Z4.c0
  have k1 := Z4.c1
  have k2 := Z4.c2
  have k3 := Z4.c3
  have Z4 := hideIt Z4
  rcases hcase with ⟨h0, fv, A', c', hq, hnew⟩ | ⟨h0, hq⟩
  · obtain ⟨FA, fc, rfl, _⟩ := hnew.fields.open
    have ZS := hideIt (Z4.out.set (.string (strOf R.1.m)) (.string (strOf R.1.p)) (.slice FA R.1.fs.length fc) (.slice A' R.1.body.length c'))
    have BS := hideIt (below_setQ B4.out (show w.heap.size ≤ w.heap.size + 1 by omega) (.string (strOf R.1.m)) (.string (strOf R.1.p)) (.slice FA R.1.fs.length fc) (.slice A' R.1.body.length c'))
    have NW := hideIt (hnew.grown (grown_setQ w4 (w.heap.size + 1) (.string (strOf R.1.m)) (.string (strOf R.1.p)) (.slice FA R.1.fs.length fc) (.slice A' R.1.body.length c')) (by rw [S3.out]; omega))
    have hld := hq.load
    have y0 := hq.c0
    have y1 := hq.c1
    have y2 := hq.c2
    have y3 := hq.c3
    generalize hfl : R.1.fs.length = fl at *
    clear hg hq hnew hb4 Z4 h0
    go_wp2_with fail
    (try simp only [Exit.inBlock, Exit.then])
    refine bodyPost_ret (results_Q2 Tryd.results23 _ _ (w.heap.size + 1) (.string (strOf R.1.m)) (.string (strOf R.1.p)) (.slice FA fl fc) (.slice A' R.1.body.length c') _ rfl rfl (by exact ZS.out)) rfl ?_
    exact ⟨.slice FA fl fc, A', c', rfl, NW.out.parts, BS.out⟩
  · have e := HRZ.out h0
    have ZS := hideIt (Z4.out.set (.string ⟨#[]⟩) (.string ⟨#[]⟩) (.slice none 0 0) (.slice none 0 0))
    have BS := hideIt (below_setQ B4.out (show w.heap.size ≤ w.heap.size + 1 by omega) (.string ⟨#[]⟩) (.string ⟨#[]⟩) (.slice none 0 0) (.slice none 0 0))
    have E := hideIt e
    have y0 := hq.c0
    have y1 := hq.c1
    have y2 := hq.c2
    have y3 := hq.c3
    clear hg hq hb4 Z4 h0 e HRZ
    go_wp2_with fail
    (try simp only [Exit.inBlock, Exit.then])
    refine bodyPost_ret (results_Q2 Tryd.results23 _ _ (w.heap.size + 1) (.string ⟨#[]⟩) (.string ⟨#[]⟩) (.slice none 0 0) (.slice none 0 0) _ rfl rfl (by exact ZS.out)) rfl ?_
    exact ⟨.slice none 0 0, none, 0, by rw [E.out]; rfl, by rw [E.out]; exact ReqParts.zero _, BS.out⟩
theorem go_parse : goFn Tryd.prog 23 = true := by kernel_rfl
end Go.Proofs.YtbojigimldfghaaDoor
