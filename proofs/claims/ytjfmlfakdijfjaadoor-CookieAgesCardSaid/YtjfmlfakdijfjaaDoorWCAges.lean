/- CookieAges: the walk. -/
import Derived.Test.YtjfmlfakdijfjaaDoorCookKnown
import Derived.Test.YtjfmlfakdijfjaaDoorCookLaid
namespace Go.Proofs.YtjfmlfakdijfjaaDoor
open Go.ChangeShapes Go.WideShapes Go.ChangeAt Go.RowKit
set_option linter.unusedVariables false
set_option linter.unusedSimpArgs false

def fineB (c : UInt8) : Bool := decide (32 < c.toNat) && (decide (c.toNat < 127) && (decide (c.toNat ≠ 34) && (decide (c.toNat ≠ 44) && (decide (c.toNat ≠ 59) && decide (c.toNat ≠ 92)))))
theorem fine_is (c : UInt8) : fineB c = octB c := by
  refine each_byte (p := fun c => fineB c = octB c) ?_ c
  decide +kernel
theorem a_tok : tokenL [97] = true := by decide +kernel
theorem set_age (age : Int) : (setC ([97], [49]) age).2 = if 0 ≤ age ∧ age ≤ 999999999 then 0 else 1 := by
  unfold setC setOk
  rw [show okC ([97], [49]) = true by decide +kernel, Bool.true_and]
  by_cases h1 : 0 ≤ age
  · by_cases h2 : age ≤ 999999999 <;> simp [h1, h2]
  · simp [h1]
theorem oct_ways (c : UInt8) : (octB c = true ∧ (32 : Int) < c.toNat ∧ (c.toNat : Int) < 127 ∧ (c.toNat : Int) ≠ 34 ∧ (c.toNat : Int) ≠ 44 ∧ (c.toNat : Int) ≠ 59 ∧ (c.toNat : Int) ≠ 92) ∨ (octB c = false ∧ ¬ (32 : Int) < c.toNat) ∨ (octB c = false ∧ (32 : Int) < c.toNat ∧ ¬ (c.toNat : Int) < 127) ∨
    (octB c = false ∧ (32 : Int) < c.toNat ∧ (c.toNat : Int) < 127 ∧ (c.toNat : Int) = 34) ∨ (octB c = false ∧ (32 : Int) < c.toNat ∧ (c.toNat : Int) < 127 ∧ (c.toNat : Int) ≠ 34 ∧ (c.toNat : Int) = 44) ∨
    (octB c = false ∧ (32 : Int) < c.toNat ∧ (c.toNat : Int) < 127 ∧ (c.toNat : Int) ≠ 34 ∧ (c.toNat : Int) ≠ 44 ∧ (c.toNat : Int) = 59) ∨ (octB c = false ∧ (32 : Int) < c.toNat ∧ (c.toNat : Int) < 127 ∧ (c.toNat : Int) ≠ 34 ∧ (c.toNat : Int) ≠ 44 ∧ (c.toNat : Int) ≠ 59 ∧ (c.toNat : Int) = 92) := by
  cases h : octB c
  · have hn : ¬ (33 ≤ c.toNat ∧ c.toNat ≤ 126 ∧ c.toNat ≠ 34 ∧ c.toNat ≠ 44 ∧ c.toNat ≠ 59 ∧ c.toNat ≠ 92) := fun hh => by rw [(octB_iff c).2 hh] at h; cases h
    simp only [true_and, Bool.false_eq_true, false_and, false_or]
    omega
  · have := (octB_iff c).1 h
    left
    refine ⟨rfl, ?_⟩
    omega
theorem set_val (c : UInt8) : (setC ([97], [c]) 1).2 = if octB c = true then 0 else 1 := by
  unfold setC setOk
  have h : okC ([97], [c]) = octB c := by simp [okC, a_tok, octL]
  rw [h]
  cases octB c <;> rfl
set_option maxRecDepth 8000 in
set_option maxHeartbeats 4000000 in
theorem cookieAges_walk (a0 a1 : Int) (w0 : (Lit.int .i64 a0).wf = true) (w1 : (Lit.int .u8 a1).wf = true) (w : World) (hT : Tabs w) :
    Calls Tryd.prog 8 #[.int .i64 a0, .int .u8 a1] w fun e w' => e = .returned (.bool true) ∧ Below w.heap.size w w' := by
  have hb := bounds_u8 w1
  obtain ⟨c, rfl⟩ : ∃ c : UInt8, a1 = (c.toNat : Int) := ⟨UInt8.ofNat a1.toNat, by rw [UInt8.toNat_ofNat']; omega⟩
  have HS1 := hideIt (cset_any ([97], [49]) a0 w (by decide) (by decide) hT.2)
  unfold pairV at HS1
  have HA := set_age a0
  have HT := hideIt hT
  clear hb w0 w1 hT
  obtain ⟨R1, hR1⟩ : ∃ R, setC ([97], [49]) a0 = R := ⟨_, rfl⟩
  rw [hR1] at HS1 HA
  clear hR1
  go_enter Tryd.func8, Tryd.ntmps8
  go_wp2_with fail
  refine HS1.out.mono ?_
  rintro e u1 ⟨rfl, hb⟩
  have B1 := hideIt hb
  have B1b := hideIt (below_then B1.out (below_new u1 (.cells #[.int .u8 (c.toNat : Int)] 5)))
  have hcv := conv_one u1 (c.toNat : Int)
  have hon : oneB (c.toNat : Int) = strOf [c] := by unfold oneB strOf; simp
  rw [hon] at hcv
  have HSZ : (strOf [c]).size = 1 := rfl
  have hcat : (⟨#[97, 61]⟩ : ByteArray) ++ strOf [c] = strOf [97, 61, c] := by
    have : (⟨#[97, 61]⟩ : ByteArray) = strOf [97, 61] := rfl
    rw [this, strOf_append]; rfl
  have HCAT := hideIt hcat
  have HK := hideIt (fun u (h : Below w.heap.size w u) => known11_any u (HT.out.1.keep h) (HT.out.2.keep h))
  have HS2 := hideIt (fun u (h : Below w.heap.size w u) => cset_any ([97], [c]) 1 u (by simp) (by simp) (HT.out.2.keep h))
  unfold pairV at HS2
  have HV := set_val c
  obtain ⟨R2, hR2⟩ : ∃ R, setC ([97], [c]) 1 = R := ⟨_, rfl⟩
  rw [hR2] at HS2 HV
  have HPB := hideIt (fun u (h : Below w.heap.size w u) => cparse_any [97, 61, c] u (by simp) (HT.out.1.keep h))
  unfold CParsePost at HPB
  have h1b := one_byte c
  obtain ⟨r1, n1⟩ := R1
  obtain ⟨r2, n2⟩ := R2
  simp only at HA HV HS2
  have hway := oct_ways c
  have hagew : (0 ≤ a0 ∧ a0 ≤ 999999999 ∧ n1 = 0) ∨ (¬ 0 ≤ a0 ∧ n1 = 1) ∨ (0 ≤ a0 ∧ ¬ a0 ≤ 999999999 ∧ n1 = 1) := by
    by_cases g1 : 0 ≤ a0
    · by_cases g2 : a0 ≤ 999999999
      · rw [if_pos ⟨g1, g2⟩] at HA; exact .inl ⟨g1, g2, HA⟩
      · rw [if_neg (fun h => g2 h.2)] at HA; exact .inr (.inr ⟨g1, g2, HA⟩)
    · rw [if_neg (fun h => g1 h.1)] at HA; exact .inr (.inl ⟨g1, HA⟩)
  clear HA hcat hb HS1 hR2 HT B1
  generalize octB c = bo at *
  generalize cookiesL [97, 61, c] = ck at *
  generalize strOf [97, 61, c] = s3 at *
  generalize strOf [c] = s1 at *
  have h0 : (0 : Int) ≤ (c.toNat : Int) := by omega
  generalize (c.toNat : Int) = u at *
  rcases hway with ⟨rfl, q1, q2, q3, q4, q5, q6⟩ | ⟨rfl, q1⟩ | ⟨rfl, q1, q2⟩ | ⟨rfl, q1, q2, q3⟩ | ⟨rfl, q1, q2, q3, q4⟩ | ⟨rfl, q1, q2, q3, q4, q5⟩ | ⟨rfl, q1, q2, q3, q4, q5, q6⟩
  · rw [if_pos rfl] at HV h1b
    subst HV
    subst h1b
    simp only [Option.isSome_some] at HPB
    go_wp2_with fail
    refine (HS2.out _ B1b.out).mono ?_
    rintro e u2 ⟨rfl, hb⟩
    have B2 := hideIt (below_then B1b.out hb)
    clear hb hcv HS2
    go_wp2_with fail
    rw [HCAT.out]
    refine (HPB.out _ B2.out).mono ?_
    rintro e u3 ⟨v, rfl, ho, hb⟩
    obtain ⟨A', c', rfl, _⟩ := ho.open
    have B3 := hideIt (below_then B2.out hb)
    clear hb ho HPB B2
    go_wp2_with fail
    refine (HK.out _ B3.out).mono ?_
    rintro e u4 ⟨rfl, hb⟩
    have B4 := hideIt (below_then B3.out hb)
    clear hb HK B3
    rcases hagew with ⟨g1, g2, rfl⟩ | ⟨g1, rfl⟩ | ⟨g1, g2, rfl⟩
    all_goals
      go_wp2_with fail
      go_ret
      first | exact ⟨rfl, B4.out⟩ | exact ⟨congrArg (fun b => Ending.returned (Value.bool b)) (by simp [*]), B4.out⟩
  · rw [if_neg (by decide)] at HV h1b
    subst HV
    subst h1b
    simp only [Option.isSome_none] at HPB
    go_wp2_with fail
    refine (HS2.out _ B1b.out).mono ?_
    rintro e u2 ⟨rfl, hb⟩
    have B2 := hideIt (below_then B1b.out hb)
    clear hb hcv HS2
    go_wp2_with fail
    rw [HCAT.out]
    refine (HPB.out _ B2.out).mono ?_
    rintro e u3 ⟨v, rfl, ho, hb⟩
    obtain ⟨A', c', rfl, _⟩ := ho.open
    have B3 := hideIt (below_then B2.out hb)
    clear hb ho HPB B2
    go_wp2_with fail
    refine (HK.out _ B3.out).mono ?_
    rintro e u4 ⟨rfl, hb⟩
    have B4 := hideIt (below_then B3.out hb)
    clear hb HK B3
    rcases hagew with ⟨g1, g2, rfl⟩ | ⟨g1, rfl⟩ | ⟨g1, g2, rfl⟩
    all_goals
      go_wp2_with fail
      go_ret
      first | exact ⟨rfl, B4.out⟩ | exact ⟨congrArg (fun b => Ending.returned (Value.bool b)) (by simp [*]), B4.out⟩
  · rw [if_neg (by decide)] at HV h1b
    subst HV
    subst h1b
    simp only [Option.isSome_none] at HPB
    go_wp2_with fail
    refine (HS2.out _ B1b.out).mono ?_
    rintro e u2 ⟨rfl, hb⟩
    have B2 := hideIt (below_then B1b.out hb)
    clear hb hcv HS2
    go_wp2_with fail
    rw [HCAT.out]
    refine (HPB.out _ B2.out).mono ?_
    rintro e u3 ⟨v, rfl, ho, hb⟩
    obtain ⟨A', c', rfl, _⟩ := ho.open
    have B3 := hideIt (below_then B2.out hb)
    clear hb ho HPB B2
    go_wp2_with fail
    refine (HK.out _ B3.out).mono ?_
    rintro e u4 ⟨rfl, hb⟩
    have B4 := hideIt (below_then B3.out hb)
    clear hb HK B3
    rcases hagew with ⟨g1, g2, rfl⟩ | ⟨g1, rfl⟩ | ⟨g1, g2, rfl⟩
    all_goals
      go_wp2_with fail
      go_ret
      first | exact ⟨rfl, B4.out⟩ | exact ⟨congrArg (fun b => Ending.returned (Value.bool b)) (by simp [*]), B4.out⟩
  · subst q3
    rw [if_neg (by decide)] at HV h1b
    subst HV
    subst h1b
    simp only [Option.isSome_none] at HPB
    go_wp2_with fail
    refine (HS2.out _ B1b.out).mono ?_
    rintro e u2 ⟨rfl, hb⟩
    have B2 := hideIt (below_then B1b.out hb)
    clear hb hcv HS2
    go_wp2_with fail
    rw [HCAT.out]
    refine (HPB.out _ B2.out).mono ?_
    rintro e u3 ⟨v, rfl, ho, hb⟩
    obtain ⟨A', c', rfl, _⟩ := ho.open
    have B3 := hideIt (below_then B2.out hb)
    clear hb ho HPB B2
    go_wp2_with fail
    refine (HK.out _ B3.out).mono ?_
    rintro e u4 ⟨rfl, hb⟩
    have B4 := hideIt (below_then B3.out hb)
    clear hb HK B3
    rcases hagew with ⟨g1, g2, rfl⟩ | ⟨g1, rfl⟩ | ⟨g1, g2, rfl⟩
    all_goals
      go_wp2_with fail
      go_ret
      first | exact ⟨rfl, B4.out⟩ | exact ⟨congrArg (fun b => Ending.returned (Value.bool b)) (by simp [*]), B4.out⟩
  · subst q4
    rw [if_neg (by decide)] at HV h1b
    subst HV
    subst h1b
    simp only [Option.isSome_none] at HPB
    go_wp2_with fail
    refine (HS2.out _ B1b.out).mono ?_
    rintro e u2 ⟨rfl, hb⟩
    have B2 := hideIt (below_then B1b.out hb)
    clear hb hcv HS2
    go_wp2_with fail
    rw [HCAT.out]
    refine (HPB.out _ B2.out).mono ?_
    rintro e u3 ⟨v, rfl, ho, hb⟩
    obtain ⟨A', c', rfl, _⟩ := ho.open
    have B3 := hideIt (below_then B2.out hb)
    clear hb ho HPB B2
    go_wp2_with fail
    refine (HK.out _ B3.out).mono ?_
    rintro e u4 ⟨rfl, hb⟩
    have B4 := hideIt (below_then B3.out hb)
    clear hb HK B3
    rcases hagew with ⟨g1, g2, rfl⟩ | ⟨g1, rfl⟩ | ⟨g1, g2, rfl⟩
    all_goals
      go_wp2_with fail
      go_ret
      first | exact ⟨rfl, B4.out⟩ | exact ⟨congrArg (fun b => Ending.returned (Value.bool b)) (by simp [*]), B4.out⟩
  · subst q5
    rw [if_neg (by decide)] at HV h1b
    subst HV
    subst h1b
    simp only [Option.isSome_none] at HPB
    go_wp2_with fail
    refine (HS2.out _ B1b.out).mono ?_
    rintro e u2 ⟨rfl, hb⟩
    have B2 := hideIt (below_then B1b.out hb)
    clear hb hcv HS2
    go_wp2_with fail
    rw [HCAT.out]
    refine (HPB.out _ B2.out).mono ?_
    rintro e u3 ⟨v, rfl, ho, hb⟩
    obtain ⟨A', c', rfl, _⟩ := ho.open
    have B3 := hideIt (below_then B2.out hb)
    clear hb ho HPB B2
    go_wp2_with fail
    refine (HK.out _ B3.out).mono ?_
    rintro e u4 ⟨rfl, hb⟩
    have B4 := hideIt (below_then B3.out hb)
    clear hb HK B3
    rcases hagew with ⟨g1, g2, rfl⟩ | ⟨g1, rfl⟩ | ⟨g1, g2, rfl⟩
    all_goals
      go_wp2_with fail
      go_ret
      first | exact ⟨rfl, B4.out⟩ | exact ⟨congrArg (fun b => Ending.returned (Value.bool b)) (by simp [*]), B4.out⟩
  · subst q6
    rw [if_neg (by decide)] at HV h1b
    subst HV
    subst h1b
    simp only [Option.isSome_none] at HPB
    go_wp2_with fail
    refine (HS2.out _ B1b.out).mono ?_
    rintro e u2 ⟨rfl, hb⟩
    have B2 := hideIt (below_then B1b.out hb)
    clear hb hcv HS2
    go_wp2_with fail
    rw [HCAT.out]
    refine (HPB.out _ B2.out).mono ?_
    rintro e u3 ⟨v, rfl, ho, hb⟩
    obtain ⟨A', c', rfl, _⟩ := ho.open
    have B3 := hideIt (below_then B2.out hb)
    clear hb ho HPB B2
    go_wp2_with fail
    refine (HK.out _ B3.out).mono ?_
    rintro e u4 ⟨rfl, hb⟩
    have B4 := hideIt (below_then B3.out hb)
    clear hb HK B3
    rcases hagew with ⟨g1, g2, rfl⟩ | ⟨g1, rfl⟩ | ⟨g1, g2, rfl⟩
    all_goals
      go_wp2_with fail
      go_ret
      first | exact ⟨rfl, B4.out⟩ | exact ⟨congrArg (fun b => Ending.returned (Value.bool b)) (by simp [*]), B4.out⟩
end Go.Proofs.YtjfmlfakdijfjaaDoor
