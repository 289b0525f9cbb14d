/- Contracts of text.Name, Pass, Note, Runes. -/
import Derived.Test.YtllimlkifggakaaTextEach
namespace Go.Proofs.Ytllimlkifggakaa
open Go.ChangeShapes Go.WideShapes Go.ChangeAt Go.RowKit
set_option linter.unusedVariables false
set_option linter.unusedSimpArgs false

theorem no_beq {r c : Int} (h : ¬ r = c) : (r == c) = false := by simp [h]
theorem no_bne {r c : Int} (h : ¬ r = c) : (r != c) = true := by simp [h]
def mayName (k r : Nat) : Bool := (decide (97 ≤ r) && decide (r ≤ 122)) || (decide (0 < k) && ((decide (48 ≤ r) && decide (r ≤ 57)) || decide (r = 95)))
def mayPass (k r : Nat) : Bool := decide (32 ≤ r) && !decide (r = 127)
def mayNote (k r : Nat) : Bool := (decide (32 ≤ r) && !decide (r = 127)) || decide (r = 10)
set_option maxHeartbeats 1000000 in
theorem name1_any (k r : Nat) (w : World) : Calls Try.prog 29 #[.int .i64 (k : Int), .int .i32 (r : Int)] w fun e w' => e = .returned (.bool (mayName k r)) ∧ w' = w := by
  by_cases h1 : 97 ≤ r ∧ r ≤ 122
  · have e : mayName k r = true := by simp [mayName, h1]
    rw [e]
    have a1 : (97 : Int) ≤ (r : Int) := by omega
    have a2 : (r : Int) ≤ (122 : Int) := by omega
    clear e h1
    go_enter Try.func29, Try.ntmps29
    go_wp2
    go_ret
    exact ⟨rfl, rfl⟩
  · have e1 : (decide (97 ≤ r) && decide (r ≤ 122)) = false := by simp; omega
    unfold mayName
    rw [e1, Bool.false_or]
    by_cases hk : 0 < k
    · rw [decide_eq_true hk, Bool.true_and]
      have hk' : (0 : Int) < (k : Int) := by omega
      by_cases h2 : 48 ≤ r ∧ r ≤ 57
      · have e2 : (decide (48 ≤ r) && decide (r ≤ 57)) = true := by simp; omega
        rw [e2, Bool.true_or]
        have a1 : ¬ (97 : Int) ≤ (r : Int) := by omega
        have a2 : (48 : Int) ≤ (r : Int) := by omega
        have a3 : (r : Int) ≤ (57 : Int) := by omega
        clear e1 e2 h1 h2 hk
        go_enter Try.func29, Try.ntmps29
        go_wp2
        go_ret
        exact ⟨rfl, rfl⟩
      · have e2 : (decide (48 ≤ r) && decide (r ≤ 57)) = false := by simp; omega
        rw [e2, Bool.false_or]
        by_cases h3 : r = 95
        · subst h3
          clear e1 e2 h1 h2 hk
          go_enter Try.func29, Try.ntmps29
          go_wp2
          go_ret
          exact ⟨rfl, rfl⟩
        · rw [decide_eq_false h3]
          have a3 : ¬ (r : Int) = 95 := by omega
          by_cases b1 : 97 ≤ r
          · have c1 : (97 : Int) ≤ (r : Int) := by omega
            have c2 : ¬ (r : Int) ≤ 122 := by omega
            have c3 : (48 : Int) ≤ (r : Int) := by omega
            have c4 : ¬ (r : Int) ≤ 57 := by omega
            clear e1 e2 h1 h2 h3 hk b1
            go_enter Try.func29, Try.ntmps29
            go_wp2
            go_ret
            exact ⟨by show Ending.returned (.bool ((r : Int) == 95)) = _; rw [no_beq a3], rfl⟩
          · have c1 : ¬ (97 : Int) ≤ (r : Int) := by omega
            by_cases b2 : 48 ≤ r
            · have c3 : (48 : Int) ≤ (r : Int) := by omega
              have c4 : ¬ (r : Int) ≤ 57 := by omega
              clear e1 e2 h1 h2 h3 hk b1 b2
              go_enter Try.func29, Try.ntmps29
              go_wp2
              go_ret
              exact ⟨by show Ending.returned (.bool ((r : Int) == 95)) = _; rw [no_beq a3], rfl⟩
            · have c3 : ¬ (48 : Int) ≤ (r : Int) := by omega
              clear e1 e2 h1 h2 h3 hk b1 b2
              go_enter Try.func29, Try.ntmps29
              go_wp2
              go_ret
              exact ⟨by show Ending.returned (.bool ((r : Int) == 95)) = _; rw [no_beq a3], rfl⟩
    · rw [decide_eq_false hk, Bool.false_and]
      obtain rfl : k = 0 := by omega
      by_cases b1 : 97 ≤ r
      · have c1 : (97 : Int) ≤ (r : Int) := by omega
        have c2 : ¬ (r : Int) ≤ 122 := by omega
        clear e1 h1 hk b1
        go_enter Try.func29, Try.ntmps29
        go_wp2
        go_ret
        exact ⟨rfl, rfl⟩
      · have c1 : ¬ (97 : Int) ≤ (r : Int) := by omega
        clear e1 h1 hk b1
        go_enter Try.func29, Try.ntmps29
        go_wp2
        go_ret
        exact ⟨rfl, rfl⟩
set_option maxHeartbeats 1000000 in
theorem pass1_any (k r : Nat) (w : World) : Calls Try.prog 32 #[.int .i64 (k : Int), .int .i32 (r : Int)] w fun e w' => e = .returned (.bool (mayPass k r)) ∧ w' = w := by
  unfold mayPass
  by_cases h1 : 32 ≤ r
  · rw [decide_eq_true h1, Bool.true_and]
    have a1 : (32 : Int) ≤ (r : Int) := by omega
    by_cases h2 : r = 127
    · subst h2
      clear h1
      go_enter Try.func32, Try.ntmps32
      go_wp2
      go_ret
      exact ⟨rfl, rfl⟩
    · rw [decide_eq_false h2]
      have a2 : ¬ (r : Int) = 127 := by omega
      clear h1 h2
      go_enter Try.func32, Try.ntmps32
      go_wp2
      go_ret
      exact ⟨by show Ending.returned (.bool ((r : Int) != 127)) = _; rw [no_bne a2]; rfl, rfl⟩
  · rw [decide_eq_false h1, Bool.false_and]
    have a1 : ¬ (32 : Int) ≤ (r : Int) := by omega
    clear h1
    go_enter Try.func32, Try.ntmps32
    go_wp2
    go_ret
    exact ⟨rfl, rfl⟩
set_option maxHeartbeats 1000000 in
theorem note1_any (k r : Nat) (w : World) : Calls Try.prog 34 #[.int .i64 (k : Int), .int .i32 (r : Int)] w fun e w' => e = .returned (.bool (mayNote k r)) ∧ w' = w := by
  unfold mayNote
  by_cases h1 : 32 ≤ r
  · rw [decide_eq_true h1, Bool.true_and]
    have a1 : (32 : Int) ≤ (r : Int) := by omega
    have a3 : ¬ r = 10 := by omega
    rw [decide_eq_false a3]
    have a4 : ¬ (r : Int) = 10 := by omega
    by_cases h2 : r = 127
    · subst h2
      clear h1 a3 a4
      go_enter Try.func34, Try.ntmps34
      go_wp2
      go_ret
      exact ⟨rfl, rfl⟩
    · rw [decide_eq_false h2]
      have a2 : ¬ (r : Int) = 127 := by omega
      clear h1 h2 a3
      go_enter Try.func34, Try.ntmps34
      go_wp2
      go_ret
      exact ⟨rfl, rfl⟩
  · rw [decide_eq_false h1, Bool.false_and, Bool.false_or]
    have a1 : ¬ (32 : Int) ≤ (r : Int) := by omega
    by_cases h2 : r = 10
    · subst h2
      clear h1
      go_enter Try.func34, Try.ntmps34
      go_wp2
      go_ret
      exact ⟨rfl, rfl⟩
    · rw [decide_eq_false h2]
      have a2 : ¬ (r : Int) = 10 := by omega
      clear h1 h2
      go_enter Try.func34, Try.ntmps34
      go_wp2
      go_ret
      exact ⟨by show Ending.returned (.bool ((r : Int) == 10)) = _; rw [no_beq a2], rfl⟩
/-- each, of a function that changes nothing -/
theorem each_pure (l : List UInt8) (hl : l.length ≤ 1000000) (F : FuncId) (may : Nat → Nat → Bool) (w : World)
    (hc : ∀ (k r : Nat) (w : World), Calls Try.prog F #[.int .i64 (k : Int), .int .i32 (r : Int)] w fun e w' => e = .returned (.bool (may k r)) ∧ w' = w) (hf : goFn Try.prog F = true) :
    Calls Try.prog 22 #[.string (strOf l), .func (.func F) #[] #[]] w fun e w' => e = .returned (.bool (eachT may 0 l)) ∧ Below w.heap.size w w' := by
  refine (each_any l hl F #[] may (fun _ => w) (fun _ => rfl) (fun j k r p _ _ => hc k r _) hf).mono ?_
  rintro e w' ⟨j, p, rfl, rfl, _⟩
  exact ⟨rfl, below_iter _ _ _⟩
theorem go_name1 : goFn Try.prog 29 = true := by kernel_rfl
theorem go_pass1 : goFn Try.prog 32 = true := by kernel_rfl
theorem go_note1 : goFn Try.prog 34 = true := by kernel_rfl
def nameP (l : List UInt8) : Bool := decide (1 ≤ l.length) && decide (l.length ≤ 20) && eachT mayName 0 l
def passP (l : List UInt8) : Bool := decide (1 ≤ l.length) && decide (l.length ≤ 60) && eachT mayPass 0 l
def noteP (l : List UInt8) : Bool := decide (l.length ≤ 200) && eachT mayNote 0 l
set_option maxHeartbeats 1000000 in
theorem name_any (l : List UInt8) (w : World) (hl : l.length ≤ 1000000) :
    Calls Try.prog 14 #[.string (strOf l)] w fun e w' => e = .returned (.bool (nameP l)) ∧ Below w.heap.size w w' := by
  have hs := strOf_size l
  have H := hideIt (each_pure l hl _ mayName w name1_any go_name1)
  unfold nameP
  by_cases h1 : 1 ≤ l.length
  · rw [decide_eq_true h1, Bool.true_and]
    have a1 : (1 : Int) ≤ (l.length : Int) := by omega
    by_cases h2 : l.length ≤ 20
    · rw [decide_eq_true h2, Bool.true_and]
      have a2 : (l.length : Int) ≤ 20 := by omega
      clear h1 h2
      generalize eachT mayName 0 l = b at *
      go_enter Try.func14, Try.ntmps14
      go_wp2_with fail
      refine H.out.mono ?_
      rintro e w' ⟨rfl, hb⟩
      go_wp2_with fail
      go_ret
      exact ⟨rfl, hb⟩
    · rw [decide_eq_false h2, Bool.false_and]
      have a2 : ¬ (l.length : Int) ≤ 20 := by omega
      clear h1 h2
      go_enter Try.func14, Try.ntmps14
      go_wp2_with fail
      go_ret
      exact ⟨rfl, Below.refl _ _⟩
  · rw [decide_eq_false h1, Bool.false_and, Bool.false_and]
    have a1 : ¬ (1 : Int) ≤ (l.length : Int) := by omega
    clear h1
    go_enter Try.func14, Try.ntmps14
    go_wp2_with fail
    go_ret
    exact ⟨rfl, Below.refl _ _⟩
set_option maxHeartbeats 1000000 in
theorem pass_any (l : List UInt8) (w : World) (hl : l.length ≤ 1000000) :
    Calls Try.prog 15 #[.string (strOf l)] w fun e w' => e = .returned (.bool (passP l)) ∧ Below w.heap.size w w' := by
  have hs := strOf_size l
  have H := hideIt (each_pure l hl _ mayPass w pass1_any go_pass1)
  unfold passP
  by_cases h1 : 1 ≤ l.length
  · rw [decide_eq_true h1, Bool.true_and]
    have a1 : (1 : Int) ≤ (l.length : Int) := by omega
    by_cases h2 : l.length ≤ 60
    · rw [decide_eq_true h2, Bool.true_and]
      have a2 : (l.length : Int) ≤ 60 := by omega
      clear h1 h2
      generalize eachT mayPass 0 l = b at *
      go_enter Try.func15, Try.ntmps15
      go_wp2_with fail
      refine H.out.mono ?_
      rintro e w' ⟨rfl, hb⟩
      go_wp2_with fail
      go_ret
      exact ⟨rfl, hb⟩
    · rw [decide_eq_false h2, Bool.false_and]
      have a2 : ¬ (l.length : Int) ≤ 60 := by omega
      clear h1 h2
      go_enter Try.func15, Try.ntmps15
      go_wp2_with fail
      go_ret
      exact ⟨rfl, Below.refl _ _⟩
  · rw [decide_eq_false h1, Bool.false_and, Bool.false_and]
    have a1 : ¬ (1 : Int) ≤ (l.length : Int) := by omega
    clear h1
    go_enter Try.func15, Try.ntmps15
    go_wp2_with fail
    go_ret
    exact ⟨rfl, Below.refl _ _⟩
set_option maxHeartbeats 1000000 in
theorem note_any (l : List UInt8) (w : World) (hl : l.length ≤ 1000000) :
    Calls Try.prog 16 #[.string (strOf l)] w fun e w' => e = .returned (.bool (noteP l)) ∧ Below w.heap.size w w' := by
  have hs := strOf_size l
  have H := hideIt (each_pure l hl _ mayNote w note1_any go_note1)
  unfold noteP
  by_cases h2 : l.length ≤ 200
  · rw [decide_eq_true h2, Bool.true_and]
    have a2 : (l.length : Int) ≤ 200 := by omega
    clear h2
    generalize eachT mayNote 0 l = b at *
    go_enter Try.func16, Try.ntmps16
    go_wp2_with fail
    refine H.out.mono ?_
    rintro e w' ⟨rfl, hb⟩
    go_wp2_with fail
    go_ret
    exact ⟨rfl, hb⟩
  · rw [decide_eq_false h2, Bool.false_and]
    have a2 : ¬ (l.length : Int) ≤ 200 := by omega
    clear h2
    go_enter Try.func16, Try.ntmps16
    go_wp2_with fail
    go_ret
    exact ⟨rfl, Below.refl _ _⟩
theorem go_name : goFn Try.prog 14 = true := by kernel_rfl
theorem go_pass : goFn Try.prog 15 = true := by kernel_rfl
theorem go_note : goFn Try.prog 16 = true := by kernel_rfl
end Go.Proofs.Ytllimlkifggakaa
