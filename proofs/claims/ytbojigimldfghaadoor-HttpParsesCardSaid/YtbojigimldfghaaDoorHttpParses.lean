/- Contract of wicketmanlaw09.parses. -/
import Derived.Test.YtbojigimldfghaaDoorRefHttpParse
import Derived.Test.YtbojigimldfghaaDoorHttpSame
import Derived.Deep.Cut
namespace Go.Proofs.YtbojigimldfghaaDoor
open Go.ChangeShapes Go.WideShapes Go.ChangeAt Go.RowKit
set_option linter.unusedVariables false
set_option linter.unusedSimpArgs false

theorem body_err (fs : List PairL) (n : Nat) : bodyL fs n ≤ 14 := by
  unfold bodyL
  split
  · split <;> simp
  · simp
theorem fieldL_err9 (l : List UInt8) : (fieldL l).2 ≤ 12 := by
  unfold fieldL
  split
  · simp
  · split
    · split <;> simp
    · simp
theorem req_err (b : List UInt8) : (reqL b).2 ≤ 14 := by
  cases hL : linesL b with
  | none => rw [req_none hL]; decide
  | some z =>
    obtain ⟨ls, r⟩ := z
    rw [req_some hL]
    cases ls with
    | nil => exact (by decide : (10 : Nat) ≤ 14)
    | cons x ls =>
      by_cases h1 : (firstL x).2 = 0
      · by_cases h2 : (fieldsL ls).2 = 0
        · rw [after_body h1 h2]
          have := body_err (fieldsL ls).1 r.length
          split <;> simp_all
        · rw [after_fields h1 h2]
          show (fieldsL ls).2 ≤ 14
          unfold fieldsL
          split
          · simp
          · split
            · rename_i x' _
              have := fieldL_err9 x'
              simp only
              omega
            · simp
      · rw [after_first h1]
        show (firstL x).2 ≤ 14
        unfold firstL
        split
        · simp
        · split
          · simp
          · split <;> simp
set_option maxRecDepth 8000 in
set_option maxHeartbeats 4000000 in
theorem parses_any (A : Option Addr) (bs : List UInt8) (n c : Nat) (w : World) (hp : PieceOk w ⟨A, c, bs⟩) (hn : bs.length = n) (hl : n ≤ 100000) (hm : MaxOk w) :
    Calls Tryd.prog 13 #[.slice A n c] w fun e w' => e = .returned (.bool true) ∧ Below w.heap.size w w' := by
  have HP1 := hideIt (parse_any A bs n c w hp hn hl hm)
  have HP2 := hideIt (fun w' (hb : Below w.heap.size w w') => refparse_any A bs n c w' (hp.keep hb) hn hl)
  have HL1 := hideIt (fun w' (hb : Below w.heap.size w w') => lines_any A bs n c w' (hp.keep hb) hn hl (hm.keep hb))
  have HL2 := hideIt (fun w' (hb : Below w.heap.size w w') => reflines_any A bs n c w' (hp.keep hb) hn hl)
  have herr := req_err bs
  have HLN : Hid ((linesT bs).1.length ≤ 1000000) := hideIt (by
    unfold linesT
    cases h : linesL bs with
    | none => simp
    | some z => have := (lines_len (ls := z.1) (r := z.2) h).1; simp only; omega)
  have HFL : Hid ((reqL bs).1.fs.length ≤ 1000000) := hideIt (by
    cases hL : linesL bs with
    | none => rw [req_none hL]; simp [ReqZ]
    | some z =>
      obtain ⟨ls, r⟩ := z
      rw [req_some hL]
      cases ls with
      | nil => simp [afterL, ReqZ]
      | cons x ls =>
        by_cases h1 : (firstL x).2 = 0
        · by_cases h2 : (fieldsL ls).2 = 0
          · rw [after_body h1 h2]
            have := fields_few (ls := ls)
            split
            · simp [ReqZ]
            · simp only; omega
          · rw [after_fields h1 h2]; simp [ReqZ]
        · rw [after_first h1]; simp [ReqZ])
  generalize reqL bs = R at *
  generalize (linesT bs).1 = ls at *
  generalize (linesT bs).2.1 = en at *
  generalize (linesT bs).2.2 = ok at *
  have hwr : IntKind.i64.wrap ((R.2 : Nat) : Int) = ((R.2 : Nat) : Int) := IntWalk.i64_in _ (by omega)
  clear hp hm herr
  go_enter Tryd.func13, Tryd.ntmps13
  go_wp2_with fail
  refine HP1.out.mono ?_
  rintro e u1 ⟨fv, B, d, rfl, hparts, hb⟩
  obtain ⟨FA, fc, rfl, _⟩ := hparts.fields.form
  unfold reqV
  have hbn := below_new u1 (.cells #[.string (strOf R.1.m), .string (strOf R.1.p), .slice FA R.1.fs.length fc, .slice B R.1.body.length d] 33)
  have B1 := hideIt (below_then hb hbn)
  have P1 := hideIt (hparts.keep hbn)
  have Q1 := hideIt (QCell.new u1 (.string (strOf R.1.m)) (.string (strOf R.1.p)) (.slice FA R.1.fs.length fc) (.slice B R.1.body.length d))
  clear hb hbn hparts HP1
  go_upto_region 2 with fail
  generalize u1.alloc (.cells #[.string (strOf R.1.m), .string (strOf R.1.p), .slice FA R.1.fs.length fc, .slice B R.1.body.length d] 33) = X at *
  generalize u1.heap.size = g1 at *
  go_wp2_with fail
  refine (HP2.out _ B1.out).mono ?_
  rintro e u2 ⟨gv, C, f, rfl, hparts, hb⟩
  obtain ⟨GA, gc, rfl, _⟩ := hparts.fields.form
  unfold reqV
  have hbn := below_new u2 (.cells #[.string (strOf R.1.m), .string (strOf R.1.p), .slice GA R.1.fs.length gc, .slice C R.1.body.length f] 33)
  have B2 := hideIt (below_then (below_then B1.out hb) hbn)
  have P2 := hideIt (hparts.keep hbn)
  have P1' := hideIt ((P1.out.keep hb).keep hbn)
  have Q1' := hideIt ((Q1.out.keep hb Q1.out.lt).keep hbn (Nat.lt_of_lt_of_le Q1.out.lt hb.size))
  have Q2 := hideIt (QCell.new u2 (.string (strOf R.1.m)) (.string (strOf R.1.p)) (.slice GA R.1.fs.length gc) (.slice C R.1.body.length f))
  clear hb hbn hparts HP2 B1 P1 Q1
  go_upto_region 3 with fail
  generalize u2.alloc (.cells #[.string (strOf R.1.m), .string (strOf R.1.p), .slice GA R.1.fs.length gc, .slice C R.1.body.length f] 33) = Y at *
  generalize u2.heap.size = g2 at *
  go_wp2_with fail
  refine (HL1.out _ B2.out).mono ?_
  rintro e u3 ⟨v1, rfl, ho, hb⟩
  have B3 := hideIt (below_then B2.out hb)
  have P3 := hideIt (P1'.out.keep hb)
  have P4 := hideIt (P2.out.keep hb)
  have Q3 := hideIt (Q1'.out.keep hb Q1'.out.lt)
  have Q4 := hideIt (Q2.out.keep hb Q2.out.lt)
  have T1 := hideIt ho.reads
  obtain ⟨VA, vc, rfl, _⟩ := ho.open
  clear hb ho HL1 B2 P1' P2 Q1' Q2
  go_wp2_with fail
  refine (HL2.out _ B3.out).mono ?_
  rintro e u4 ⟨v2, rfl, ho, hb⟩
  have B4 := hideIt (below_then B3.out hb)
  have P5 := hideIt (P3.out.keep hb)
  have P6 := hideIt (P4.out.keep hb)
  have Q5 := Q3.out.keep hb Q3.out.lt
  have Q6 := Q4.out.keep hb Q4.out.lt
  have T2 := hideIt (T1.out.keep hb)
  have T3 := hideIt ho.reads
  obtain ⟨WA, wc, rfl, _⟩ := ho.open
  have y0 := Q5.c0
  have y1 := Q5.c1
  have y2 := Q5.c2
  have y3 := Q5.c3
  have z0 := Q6.c0
  have z1 := Q6.c1
  have z2 := Q6.c2
  have z3 := Q6.c3
  have HSQ := refsame4_any R.1 R.1 (.slice FA R.1.fs.length fc) (.slice GA R.1.fs.length gc) B C d f u4 P5.out P6.out HFL.out
  rw [sameQ_refl] at HSQ
  unfold reqV at HSQ
  have HSQ := hideIt HSQ
  clear hb ho HL2 B3 P3 P4 Q3 Q4 T1 Q5 Q6
  generalize R.1.fs.length = nf at *
  generalize R.1.body.length = nb at *
  generalize R.2 = er at *
  have HLN2 : Hid (ls.length ≤ 1000000) := HLN
  generalize hnl : ls.length = nl at *
  have HNL := hideIt hnl
  clear hnl
  go_wp2_with fail
  refine HSQ.out.mono ?_
  rintro e u5 ⟨rfl, hb⟩
  have B5 := hideIt (below_then B4.out hb)
  have HTX := reftexts_any (.slice VA nl vc) (.slice WA nl wc) ls ls u5 (T2.out.keep hb) (T3.out.keep hb) (by rw [HNL.out]; exact HLN.out)
  rw [decide_eq_true rfl] at HTX
  have HTX := hideIt HTX
  clear hb HSQ y0 y1 y2 y3 z0 z1 z2 z3 B4
  go_wp2_with fail
  refine HTX.out.mono ?_
  rintro e u6 ⟨rfl, hb⟩
  have B6 := hideIt (below_then B5.out hb)
  clear hb
  cases ok
  all_goals
    go_wp2_with fail
    go_ret
    exact ⟨rfl, B6.out⟩
theorem go_parses : goFn Tryd.prog 13 = true := by kernel_rfl
end Go.Proofs.YtbojigimldfghaaDoor
