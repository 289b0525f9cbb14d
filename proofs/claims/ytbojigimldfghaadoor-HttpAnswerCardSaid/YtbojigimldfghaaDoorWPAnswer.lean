/- The walk of HttpAnswer. -/
import Derived.Test.YtbojigimldfghaaDoorHttpKnown
import Derived.Test.YtbojigimldfghaaDoorHttpLaid
namespace Go.Proofs.YtbojigimldfghaaDoor
open Go.ChangeShapes Go.WideShapes Go.ChangeAt Go.RowKit
set_option linter.unusedVariables false
set_option linter.unusedSimpArgs false

theorem stat_cases (x : Int) : (x = 0 ∧ statI x = 200 ∧ (x == 0) = true) ∨ ((x == 0) = false ∧ (statI x = 431 ∨ statI x = 413 ∨ statI x = 400)) := by
  by_cases h : x = 0
  · subst h; exact .inl ⟨rfl, rfl, rfl⟩
  · refine .inr ⟨by rw [beq_eq_false_iff_ne]; exact h, ?_⟩
    unfold statI
    rw [if_neg h]
    split
    · exact .inl rfl
    · split
      · exact .inr (.inl rfl)
      · exact .inr (.inr rfl)
set_option maxRecDepth 8000 in
set_option maxHeartbeats 4000000 in
theorem httpAnswer_walk (a0 : Int) (a1 : Option Addr) (len1 cap1 : Nat) (z1 : List Int) (w : World) (w0 : (Lit.int .u16 a0).wf = true) (w1 : IsRow .u8 w a1 len1 cap1 z1) (hT : Tabs w) :
    Calls Tryd.prog 10 #[.int .u16 a0, .slice a1 len1 cap1] w fun e w' => e = .returned (.bool true) ∧ Below w.heap.size w w' := by
  have hm : MaxOk w := hT
  by_cases hbig : 300 < len1
  · have hi : (300 : Int) < (len1 : Int) := by omega
    have HK := hideIt (known9_any w hm)
    clear w0 w1 hT hm hbig
    go_enter Tryd.func10, Tryd.ntmps10
    go_wp2_with fail
    refine HK.out.mono ?_
    rintro e u1 ⟨rfl, hb⟩
    have B1 := hideIt hb
    clear hb
    go_wp2_with fail
    go_ret
    exact ⟨rfl, B1.out⟩
  have hi : ¬ (300 : Int) < (len1 : Int) := by omega
  obtain ⟨bs, hl, _, hp⟩ := row_piece w1 (by omega)
  have HP := hideIt (parse_any a1 bs len1 cap1 w hp hl (by omega) hm)
  have HK := hideIt (fun w' (hb : Below w.heap.size w w') => known9_any w' (hm.keep hb))
  have HZ := hideIt (req_zero' bs)
  obtain ⟨R, hR⟩ : ∃ R, reqL bs = R := ⟨_, rfl⟩
  rw [hR] at HP HZ
  have HST := hideIt (fun w => status_any a0 w)
  have HC := hideIt (stat_cases a0)
  clear w0 w1 hT hm hbig hp hl hR
  go_enter Tryd.func10, Tryd.ntmps10
  go_wp2_with fail
  refine (HST.out _).mono ?_
  rintro e u0 ⟨rfl, rfl⟩
  generalize hs : statI a0 = st at *
  have HS := hideIt hs
  clear hs HST
  go_wp2_with fail
  refine HP.out.mono ?_
  rintro e u1 ⟨fv, A, c, rfl, hparts, hb⟩
  have PT := hideIt hparts
  obtain ⟨FA, fc, rfl, _⟩ := hparts.fields.form
  unfold reqV
  have B1 := hideIt (below_then hb (below_new u1 (.cells #[.string (strOf R.1.m), .string (strOf R.1.p), .slice FA R.1.fs.length fc, .slice A R.1.body.length c] 33)))
  have P1 := hideIt (hparts.keep (below_new u1 (.cells #[.string (strOf R.1.m), .string (strOf R.1.p), .slice FA R.1.fs.length fc, .slice A R.1.body.length c] 33)))
  have Q1 := hideIt (QCell.new u1 (.string (strOf R.1.m)) (.string (strOf R.1.p)) (.slice FA R.1.fs.length fc) (.slice A R.1.body.length c))
  clear hb hparts PT HP
  go_wp2_with fail
  generalize u1.alloc (.cells #[.string (strOf R.1.m), .string (strOf R.1.p), .slice FA R.1.fs.length fc, .slice A R.1.body.length c] 33) = X at *
  generalize u1.heap.size = g at *
  refine (HK.out _ B1.out).mono ?_
  rintro e u2 ⟨rfl, hb⟩
  have B2 := hideIt (below_then B1.out hb)
  have P2 := hideIt (P1.out.keep hb)
  have Q2 := Q1.out.keep hb Q1.out.lt
  have q0 := Q2.c0
  have q1 := Q2.c1
  have q2 := Q2.c2
  have q3 := Q2.c3
  have hld := Q2.load
  clear hb HK Q1 P1 B1 Q2
  have HC2 : (a0 = 0 ∧ st = 200 ∧ (a0 == 0) = true) ∨ ((a0 == 0) = false ∧ (st = 431 ∨ st = 413 ∨ st = 400)) := HC.out
  by_cases h0 : R.2 = 0
  · have hq : (((R.2 : Nat) : Int) == 0) = true := by rw [h0]; rfl
    clear h0 HZ HC
    generalize ((R.2 : Nat) : Int) = rr at *
    generalize R.1.fs.length = nf at *
    generalize R.1.body.length = nb at *
    rcases HC2 with ⟨_, rfl, hz⟩ | ⟨hz, rfl | rfl | rfl⟩
    all_goals
      go_wp2_with fail
      go_ret
      exact ⟨rfl, B2.out⟩
  · have e := HZ.out h0
    have hq : (((R.2 : Nat) : Int) == 0) = false := by rw [beq_eq_false_iff_ne]; omega
    have HSQ := refsame4_any R.1 ReqZ (.slice FA R.1.fs.length fc) (.slice none 0 0) A none c 0 u2 P2.out (ReqParts.zero u2) (by rw [e]; simp [ReqZ])
    rw [show sameQ R.1 ReqZ = true by rw [e]; exact sameQ_refl _] at HSQ
    unfold reqV at HSQ
    have HSQ := hideIt HSQ
    rw [show strOf ReqZ.m = ⟨#[]⟩ from rfl, show strOf ReqZ.p = ⟨#[]⟩ from rfl, show ReqZ.body.length = 0 from rfl] at HSQ
    clear h0 HZ HC e
    generalize ((R.2 : Nat) : Int) = rr at *
    generalize R.1.fs.length = nf at *
    generalize R.1.body.length = nb at *
    rcases HC2 with ⟨_, rfl, hz⟩ | ⟨hz, rfl | rfl | rfl⟩
    all_goals
      go_wp2_with fail
      refine HSQ.out.mono ?_
      rintro e u3 ⟨rfl, hb⟩
      have B3 := hideIt (below_then B2.out hb)
      clear hb
      go_wp2_with fail
      go_ret
      exact ⟨rfl, B3.out⟩
end Go.Proofs.YtbojigimldfghaaDoor
