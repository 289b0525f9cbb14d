/- wicketmanlaw09.prints; how much a parsed request has. -/
import Derived.Test.YtbojigimldfghaaDoorHttpHeavy
import Derived.Test.YtbojigimldfghaaDoorRefHttpPrint
namespace Go.Proofs.YtbojigimldfghaaDoor
open Go.ChangeShapes Go.WideShapes Go.ChangeAt Go.RowKit
set_option linter.unusedVariables false
set_option linter.unusedSimpArgs false

theorem words_len {l m p v : List UInt8} (h : wordsL l = some (m, p, v)) : m.length + p.length ≤ l.length := by
  unfold wordsL at h
  cases h1 : cutS [32] l with
  | none => rw [h1] at h; cases h
  | some x =>
    rw [h1] at h
    simp only at h
    cases h2 : cutS [32] x.2 with
    | none => rw [h2] at h; cases h
    | some y =>
      rw [h2] at h
      simp at h
      obtain ⟨rfl, rfl, rfl⟩ := h
      have e1 := cut_len (x := x.1) (y := x.2) h1
      have e2 := cut_len (x := y.1) (y := y.2) h2
      simp only [List.length_cons, List.length_nil] at e1 e2
      omega
theorem first_small (l : List UInt8) : (firstL l).1.1.length + (firstL l).1.2.length ≤ l.length := by
  unfold firstL
  split
  · simp [PairZ]
  · split
    · simp [PairZ]
    · rename_i z hz
      split
      · exact words_len (m := z.1) (p := z.2.1) (v := z.2.2) hz
      · simp [PairZ]
theorem lines_sum : ∀ {n : Nat} {l : List UInt8} {ls : List (List UInt8)} {r : List UInt8}, linesF n l = some (ls, r) → (ls.map fun x => x.length + 2).sum + 2 + r.length = l.length
  | 0, l, ls, r, h => by simp [linesF] at h
  | n + 1, l, ls, r, h => by
    unfold linesF at h
    cases hc : cutS crlf l with
    | none => rw [hc] at h; simp at h
    | some x =>
      have hl := cut_len (x := x.1) (y := x.2) hc
      simp only [crlf, List.length_cons, List.length_nil] at hl
      rw [hc] at h
      simp only at h
      by_cases h0 : x.1 = []
      · rw [if_pos h0] at h
        cases h
        rw [h0] at hl
        simp only [List.length_nil] at hl
        simp
        omega
      · rw [if_neg h0] at h
        cases hf : linesF n x.2 with
        | none => rw [hf] at h; simp at h
        | some z =>
          rw [hf] at h
          simp at h
          obtain ⟨rfl, rfl⟩ := h
          have := lines_sum (ls := z.1) (r := z.2) hf
          simp only [List.map_cons, List.sum_cons]
          omega
theorem fields_bulk (ls : List (List UInt8)) : bulkQ (ls.map fun x => (fieldL x).1) ≤ 2 * (ls.map fun x => x.length + 2).sum := by
  induction ls with
  | nil => simp [bulkQ]
  | cons x r ih =>
    obtain ⟨h1, h2⟩ := fieldL_len x
    rw [List.map_cons, show bulkQ ((fieldL x).1 :: r.map fun x => (fieldL x).1) = (1 + (fieldL x).1.1.length + (fieldL x).1.2.length) + bulkQ (r.map fun x => (fieldL x).1) by simp [bulkQ], List.map_cons, List.sum_cons]
    omega
theorem req_bulk (b : List UInt8) : sizeQ (reqL b).1 ≤ 2 * b.length := by
  have hz : sizeQ ReqZ = 0 := rfl
  cases hL : linesL b with
  | none => rw [req_none hL]; show sizeQ ReqZ ≤ _; omega
  | some z =>
    obtain ⟨ls, q⟩ := z
    have hs := lines_sum hL
    rw [req_some hL]
    cases ls with
    | nil => show sizeQ ReqZ ≤ _; omega
    | cons x ls =>
      simp only [List.map_cons, List.sum_cons] at hs
      by_cases h1 : (firstL x).2 = 0
      · by_cases h2 : (fieldsL ls).2 = 0
        · rw [after_body h1 h2]
          obtain ⟨_, _, hf⟩ := fieldsL_small h2
          split
          · show sizeQ ReqZ ≤ _; omega
          · have e := first_small x
            have hb := fields_bulk ls
            unfold sizeQ
            simp only
            rw [hf]
            omega
        · rw [after_fields h1 h2]; show sizeQ ReqZ ≤ _; omega
      · rw [after_first h1]; show sizeQ ReqZ ≤ _; omega
set_option maxRecDepth 8000 in
set_option maxHeartbeats 4000000 in
theorem prints9_any (r : ReqL) (fv : Value) (A : Option Addr) (c : Nat) (w : World) (hp : ReqParts fv A c r w) (hB : sizeQ r ≤ 20000) (hm : MaxOk w) :
    Calls Tryd.prog 18 #[reqV r fv A c] w fun e w' => e = .returned (.bool true) ∧ Below w.heap.size w w' := by
  obtain ⟨FA, fc, rfl, _, _, _, _⟩ := hp.fields.form
  obtain ⟨X, hX⟩ : ∃ X, w.alloc (.cells #[.string (strOf r.m), .string (strOf r.p), .slice FA r.fs.length fc, .slice A r.body.length c] 33) = X := ⟨_, rfl⟩
  have hbx : Below w.heap.size w X := by rw [← hX]; exact below_new w _
  have hqx : QCell X w.heap.size (.string (strOf r.m)) (.string (strOf r.p)) (.slice FA r.fs.length fc) (.slice A r.body.length c) := by rw [← hX]; exact QCell.new w _ _ _ _
  have HX := hideIt hX
  have BX := hideIt hbx
  have QX := hideIt hqx
  have PX := hideIt (hp.keep hbx)
  have hB' : r.m.length + r.p.length + r.body.length + bulkQ r.fs ≤ 20000 := hB
  have HP1 := hideIt (httpprint_any r (.slice FA r.fs.length fc) A c X PX.out hB' (hm.keep hbx))
  have HP2 := hideIt (fun X' (hb : Below X.heap.size X X') => refhttpprint_any r (.slice FA r.fs.length fc) A c X' (PX.out.keep hb) hB')
  have hfs := bulkQ_len r.fs
  have hTL : (textQ r).length ≤ 100000 := by
    rw [← doneT_all]
    have := doneT_len r r.fs.length
    simp [crlf]
    omega
  have HTL := hideIt hTL
  have q0 := hqx.c0
  have q1 := hqx.c1
  have q2 := hqx.c2
  have q3 := hqx.c3
  unfold reqV at HP1 HP2 ⊢
  clear hp hX hbx hqx hm hB hB' hfs hTL
  generalize strOf r.m = sm at *
  generalize strOf r.p = spp at *
  generalize r.fs.length = nf at *
  generalize r.body.length = nb at *
  go_enter Tryd.func18, Tryd.ntmps18
  go_upto_region 1 with fail
  rw [HX.out]
  go_wp2_with fail
  refine HP1.out.mono ?_
  rintro e u1 ⟨v, rfl, hy, hn, hb⟩
  have HY := hideIt hy
  have HN := hideIt hn
  have B1 := hideIt hb
  have q0 := (QX.out.keep hb QX.out.lt).c0
  have q1 := (QX.out.keep hb QX.out.lt).c1
  have q2 := (QX.out.keep hb QX.out.lt).c2
  have q3 := (QX.out.keep hb QX.out.lt).c3
  clear hy hn hb HP1
  cases hmay : mayQ r
  · obtain rfl := HN.out hmay
    have hk : ((kindQ r : Nat) : Int) = 10 := by unfold kindQ; rw [hmay]; rfl
    have HM := hideIt hmay
    rw [hk]
    have HP3 := HP2.out u1 B1.out
    have HP3 := hideIt HP3
    clear hmay HP2 HY HN
    go_wp2_with fail
    refine HP3.out.mono ?_
    rintro e u2 ⟨v2, rfl, _, hn2, hb2⟩
    obtain rfl := hn2 HM.out
    have B2 := hideIt (below_then BX.out (below_then B1.out hb2))
    rw [hk]
    have hcv := conv_bytes none [] 0 0 0 u2 (fun h => by simp at h) rfl
    clear hn2 hb2 q0 q1 q2 q3 HP3 hk
    go_wp2_with fail
    go_ret
    exact ⟨rfl, B2.out⟩
  · obtain ⟨g1, c1, rfl, _, _, hp1⟩ := (HY.out hmay).open (by have := HTL.out; omega)
    have hk : ((kindQ r : Nat) : Int) = 0 := by unfold kindQ; rw [hmay]; rfl
    have HM := hideIt hmay
    have P1 := hideIt hp1
    rw [hk]
    have HP3 := HP2.out u1 B1.out
    have HP3 := hideIt HP3
    clear hmay HP2 HY HN hp1
    generalize htt : textQ r = T at *
    have HTT := hideIt htt
    clear htt
    generalize htl : T.length = tl at *
    have HT := hideIt htl
    clear htl
    go_wp2_with fail
    refine HP3.out.mono ?_
    rintro e u2 ⟨v2, rfl, hy2, _, hb2⟩
    obtain ⟨A2, c2, hv2, hp2⟩ := hy2 HM.out
    rw [HTT.out] at hv2 hp2
    subst hv2
    have B2 := hideIt (below_then BX.out (below_then B1.out hb2))
    have hcv1 := conv_bytes (some ⟨g1, 0, none⟩) T tl c1 _ u2 (P1.out.keep hb2).bytes HT.out
    have hcv2 := conv_bytes A2 T T.length c2 _ u2 hp2.bytes rfl
    have hse : ((strOf T).toList == (strOf T).toList) = true := by simp
    rw [hk]
    clear hy2 hb2 q0 q1 q2 q3 HP3 hk hp2
    generalize strOf T = st at *
    generalize T.length = tl2 at *
    go_wp2_with fail
    go_ret
    exact ⟨rfl, B2.out⟩
theorem go_prints9 : goFn Tryd.prog 18 = true := by kernel_rfl
end Go.Proofs.YtbojigimldfghaaDoor
