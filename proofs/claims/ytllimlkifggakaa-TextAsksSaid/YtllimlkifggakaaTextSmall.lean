/- Contracts of package text's small functions: broken, escaped, and what may be told of a rune. -/
import Derived.Test.YtllimlkifggakaaStrFacts
import Derived.Test.YtllimlkifggakaaTextPlain
namespace Go.Proofs.Ytllimlkifggakaa
open Go.ChangeShapes Go.WideShapes Go.ChangeAt Go.RowKit
set_option linter.unusedVariables false
set_option linter.unusedSimpArgs false

theorem beq_eq_decide (a b : List UInt8) : (a == b) = decide (a = b) := by
  by_cases h : a = b
  · simp [h]
  · simp [h]
set_option maxHeartbeats 1000000 in
theorem prefix2_any (l p : List UInt8) (w : World) (hl : l.length ≤ 1000000) :
    Calls Try.prog 40 #[.string (strOf l), .string (strOf p)] w fun e w' => e = .returned (.bool (decide (p.length ≤ l.length ∧ l.take p.length = p))) ∧ w' = w := by
  have hs := strOf_size l
  have hp := strOf_size p
  by_cases h : p.length ≤ l.length
  · have hsl : ∀ w, (Instr.slice 9 (.string (strOf l)) none (some (.int .i64 (p.length : Int))) none).run Try.prog w = .ok (.string (strOf (l.take p.length))) w := fun w => by
      have := run_slice_str w l none (some (.int .i64 (p.length : Int))) .i64 .i64 0 p.length (.inl ⟨rfl, rfl⟩) (.inr rfl) (by omega) h
      simpa using this
    have hb : decide (p.length ≤ l.length ∧ l.take p.length = p) = decide (l.take p.length = p) := by simp [h]
    rw [hb]
    have h' : (p.length : Int) ≤ (l.length : Int) := by omega
    clear hb
    generalize l.take p.length = t at *
    go_enter Try.func40, Try.ntmps40
    go_wp2
    go_ret
    refine ⟨?_, rfl⟩
    show Ending.returned (.bool ((strOf t).toList == (strOf p).toList)) = _
    rw [strOf_toList, strOf_toList]
    congr 2
    exact beq_eq_decide t p
  · have hb : decide (p.length ≤ l.length ∧ l.take p.length = p) = false := by simp [h]
    rw [hb]
    have h' : ¬ (p.length : Int) ≤ (l.length : Int) := by omega
    clear hb
    go_enter Try.func40, Try.ntmps40
    go_wp2
    go_ret
    exact ⟨rfl, rfl⟩
theorem prefix_any (l p : List UInt8) (w : World) (hl : l.length ≤ 1000000) :
    Calls Try.prog 37 #[.string (strOf l), .string (strOf p)] w fun e w' => e = .returned (.bool (decide (p.length ≤ l.length ∧ l.take p.length = p))) ∧ w' = w := by
  have H := hideIt (prefix2_any l p w hl)
  generalize decide (p.length ≤ l.length ∧ l.take p.length = p) = b at *
  go_enter Try.func37, Try.ntmps37
  go_wp2_with fail
  refine H.out.mono ?_
  rintro e w' ⟨rfl, rfl⟩
  go_wp2_with fail
  go_ret
  exact ⟨rfl, rfl⟩
set_option maxHeartbeats 1000000 in
theorem broken_any (l : List UInt8) (k : Nat) (w : World) (hl : l.length ≤ 1000000) (hk : k < l.length) :
    Calls Try.prog 24 #[.string (strOf l), .int .i64 (k : Int), .int .i32 ((dec (l.drop k)).1 : Int)] w fun e w' => e = .returned (.bool (!goodL (l.drop k))) ∧ w' = w := by
  have hi := broken_iff (l.drop k) (by rw [List.length_drop]; omega)
  have hsl : ∀ w, (Instr.slice 9 (.string (strOf l)) (some (.int .i64 (k : Int))) none none).run Try.prog w = .ok (.string (strOf (l.drop k))) w := fun w => by
    have := run_slice_str w l (some (.int .i64 (k : Int))) none .i64 .i64 k l.length (.inr rfl) (.inl ⟨rfl, rfl⟩) (by omega) (Nat.le_refl _)
    rwa [List.take_of_length_le (by simp)] at this
  have H := hideIt (prefix_any (l.drop k) [239, 191, 189] w (by simp; omega))
  rw [← hi]
  clear hi
  have hlen : (([239, 191, 189] : List UInt8)).length = 3 := rfl
  rw [hlen] at H
  clear hlen
  generalize decide (3 ≤ (l.drop k).length ∧ (l.drop k).take 3 = [239, 191, 189]) = b at *
  generalize (dec (l.drop k)).1 = r at *
  generalize strOf (l.drop k) = t at *
  by_cases hr : r = 65533
  · subst hr
    go_enter Try.func24, Try.ntmps24
    go_wp2_with fail
    refine H.out.mono ?_
    rintro e w' ⟨rfl, rfl⟩
    go_wp2_with fail
    go_ret
    exact ⟨by simp, rfl⟩
  · have hr' : ¬ (r : Int) = 65533 := by omega
    have e : decide (r = 65533) = false := decide_eq_false hr
    rw [e]
    clear e hr
    go_enter Try.func24, Try.ntmps24
    go_wp2_with fail
    go_ret
    exact ⟨rfl, rfl⟩
theorem go_broken : goFn Try.prog 24 = true := by kernel_rfl
theorem run_runestr (r : Int) (w : World) : (convert 21 9 (.int .i32 r)).run Try.prog w = .ok (.string (Utf8.encode r)) w := by
  go_simp
/-- what a rune becomes in a page -/
def escR (r : Int) : ByteArray :=
  if r = 38 then strOf [38, 97, 109, 112, 59] else if r = 60 then strOf [38, 108, 116, 59] else if r = 62 then strOf [38, 103, 116, 59] else if r = 34 then strOf [38, 35, 51, 52, 59] else if r = 39 then strOf [38, 35, 51, 57, 59] else Utf8.encode r
set_option maxHeartbeats 1000000 in
theorem escaped_rune (r : Int) (w : World) :
    Calls Try.prog 27 #[.int .i32 r] w fun e w' => e = .returned (.string (escR r)) ∧ w' = w := by
  have hc := fun w => run_runestr r w
  unfold escR
  by_cases h1 : r = 38
  · rw [if_pos h1]; subst h1
    go_enter Try.func27, Try.ntmps27
    go_wp2
    go_ret
    exact ⟨rfl, rfl⟩
  rw [if_neg h1]
  by_cases h2 : r = 60
  · rw [if_pos h2]; subst h2
    go_enter Try.func27, Try.ntmps27
    go_wp2
    go_ret
    exact ⟨rfl, rfl⟩
  rw [if_neg h2]
  by_cases h3 : r = 62
  · rw [if_pos h3]; subst h3
    go_enter Try.func27, Try.ntmps27
    go_wp2
    go_ret
    exact ⟨rfl, rfl⟩
  rw [if_neg h3]
  by_cases h4 : r = 34
  · rw [if_pos h4]; subst h4
    go_enter Try.func27, Try.ntmps27
    go_wp2
    go_ret
    exact ⟨rfl, rfl⟩
  rw [if_neg h4]
  by_cases h5 : r = 39
  · rw [if_pos h5]; subst h5
    go_enter Try.func27, Try.ntmps27
    go_wp2
    go_ret
    exact ⟨rfl, rfl⟩
  rw [if_neg h5]
  go_enter Try.func27, Try.ntmps27
  go_wp2
  go_ret
  exact ⟨rfl, rfl⟩
theorem go_escaped : goFn Try.prog 27 = true := by kernel_rfl
theorem escR_is (l : List UInt8) (hl : 1 ≤ l.length) (hg : goodL l = true) : escR ((dec l).1 : Int) = strOf (escB (l.take (wd l))) := by
  have he := encode_dec l hl hg
  rcases good_bytes l hl hg with ⟨b, hb, h128, hd⟩ | ⟨h2, h128, _⟩
  · rw [hb] at he ⊢
    rw [hd] at he ⊢
    have hn : ∀ (n : Nat) (c : UInt8), c.toNat = n → (((b.toNat : Nat) : Int) = (n : Int) ↔ [b] = [c]) := fun n c hc => by
      constructor
      · intro h
        have : b.toNat = c.toNat := by omega
        rw [UInt8.toNat_inj.1 this]
      · intro h
        have : b = c := by simpa using h
        rw [this, hc]
    have h38 : ((b.toNat : Int) = 38 ↔ [b] = [38]) := hn 38 38 rfl
    have h60 : ((b.toNat : Int) = 60 ↔ [b] = [60]) := hn 60 60 rfl
    have h62 : ((b.toNat : Int) = 62 ↔ [b] = [62]) := hn 62 62 rfl
    have h34 : ((b.toNat : Int) = 34 ↔ [b] = [34]) := hn 34 34 rfl
    have h39 : ((b.toNat : Int) = 39 ↔ [b] = [39]) := hn 39 39 rfl
    unfold escR escB
    by_cases g1 : [b] = [38]
    · rw [if_pos (h38.2 g1), if_pos g1]
    rw [if_neg (fun h => g1 (h38.1 h)), if_neg g1]
    by_cases g2 : [b] = [60]
    · rw [if_pos (h60.2 g2), if_pos g2]
    rw [if_neg (fun h => g2 (h60.1 h)), if_neg g2]
    by_cases g3 : [b] = [62]
    · rw [if_pos (h62.2 g3), if_pos g3]
    rw [if_neg (fun h => g3 (h62.1 h)), if_neg g3]
    by_cases g4 : [b] = [34]
    · rw [if_pos (h34.2 g4), if_pos g4]
    rw [if_neg (fun h => g4 (h34.1 h)), if_neg g4]
    by_cases g5 : [b] = [39]
    · rw [if_pos (h39.2 g5), if_pos g5]
    rw [if_neg (fun h => g5 (h39.1 h)), if_neg g5, he]
  · have hlen : (l.take (wd l)).length = wd l := by rw [List.length_take]; have := wd_le l hl; omega
    have hne : ∀ c : UInt8, l.take (wd l) ≠ [c] := fun c h => by rw [h] at hlen; simp at hlen; omega
    unfold escR escB
    rw [if_neg (by omega), if_neg (by omega), if_neg (by omega), if_neg (by omega), if_neg (by omega), if_neg (hne _), if_neg (hne _), if_neg (hne _), if_neg (hne _), if_neg (hne _), he]
theorem escaped_any (l : List UInt8) (w : World) (hl : 1 ≤ l.length) (hg : goodL l = true) :
    Calls Try.prog 27 #[.int .i32 ((dec l).1 : Int)] w fun e w' => e = .returned (.string (strOf (escB (l.take (wd l))))) ∧ w' = w := by
  rw [← escR_is l hl hg]
  exact escaped_rune _ w
end Go.Proofs.Ytllimlkifggakaa
