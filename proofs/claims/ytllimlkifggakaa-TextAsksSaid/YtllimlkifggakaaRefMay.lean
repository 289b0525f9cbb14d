/- The contracts of the reference's plain, Name, Pass, Note. -/
import Derived.Test.YtllimlkifggakaaRefRunes
namespace Go.Proofs.Ytllimlkifggakaa
open Go.ChangeShapes Go.WideShapes Go.ChangeAt Go.RowKit
set_option linter.unusedVariables false
set_option linter.unusedSimpArgs false

theorem all_at (q : Nat → Bool) (l : List UInt8) (j : Nat) (hj : j < l.length) (h : q (at4 l j) = false) : (l.all fun b => q b.toNat) = false := by
  rw [← Bool.not_eq_true, List.all_eq_true]
  intro ha
  have e : at4 l j = (l[j]).toNat := by simp [at4, List.getD, hj]
  have := ha l[j] (List.getElem_mem hj)
  rw [e, this] at h
  cases h
theorem all_upto (q : Nat → Bool) (l : List UInt8) (h : ∀ j, j < l.length → q (at4 l j) = true) : (l.all fun b => q b.toNat) = true := by
  rw [List.all_eq_true]
  intro b hb
  obtain ⟨k, hk, e⟩ := mem_at4 hb
  rw [← e]
  exact h k hk
set_option maxHeartbeats 1000000 in
theorem refplainF_any (l : List UInt8) (w : World) (hl : l.length ≤ 1000000) :
    Calls Try.prog 36 #[.string (strOf l), .bool false] w fun e w' => e = .returned (.bool (okT l && l.all fun b => qPass b.toNat)) ∧ Below w.heap.size w w' := by
  have H1 := hideIt (refrunes_any l w hl)
  have hsz := strOf_size l
  have HA := hideIt (all_at qPass l)
  have HU := hideIt (all_upto qPass l)
  have HX := hideIt (index_at4 l)
  generalize okT l = o at *
  generalize runesN l = rn at *
  go_enter Try.func36, Try.ntmps36
  go_wp2_with fail
  refine H1.out.mono ?_
  rintro e w2 ⟨rfl, b2⟩
  have B2 := hideIt b2
  clear b2 H1
  go_wp2_with fail
  go_loopw [7] (fun i wr => ∃ j : Nat, j ≤ l.length ∧ i = .int .i64 (j : Int) ∧ (∀ m, m < j → qPass (at4 l m) = true) ∧ wr = w2) (fun i _ => l.length - (intOf i).toNat)
  case atStart => exact ⟨0, by omega, rfl, fun m h => by omega, rfl⟩
  case round =>
    obtain ⟨j, hj, rfl, hc, rfl⟩ := hrel
    have HC := hideIt hc
    clear hc
    by_cases hlt : j < l.length
    · have hlt' : (j : Int) < (l.length : Int) := by omega
      have hxj := HX.out j hlt
      have hwj : IntKind.i64.wrap ((j : Int) + 1) = (j : Int) + 1 := IntWalk.i64_in _ (by omega)
      by_cases h32 : at4 l j < 32
      · have R : Hid ((o && l.all fun b => qPass b.toNat) = false) := hideIt (by rw [HA.out j hlt (by simp [qPass]; omega), Bool.and_false])
        have h32' : (at4 l j : Int) < 32 := by omega
        clear h32
        generalize at4 l j = x at *
        go_wp2_with fail
        go_ret
        exact ⟨by rw [R.out]; rfl, B2.out⟩
      have h32' : ¬ (at4 l j : Int) < 32 := by omega
      by_cases h127 : at4 l j = 127
      · have R : Hid ((o && l.all fun b => qPass b.toNat) = false) := hideIt (by rw [HA.out j hlt (by simp [qPass, h127]), Bool.and_false])
        have h127' : ((at4 l j : Int) == 127) = true := by rw [h127]; rfl
        clear h32 h127
        generalize at4 l j = x at *
        go_wp2_with fail
        go_ret
        exact ⟨by rw [R.out]; rfl, B2.out⟩
      · have h127' : ((at4 l j : Int) == 127) = false := by simp; omega
        have HC2 : Hid (∀ m, m < j + 1 → qPass (at4 l m) = true) := hideIt fun m hm => by
          rcases Nat.lt_or_ge m j with h | h
          · exact HC.out m h
          · obtain rfl : m = j := by omega
            simp [qPass, h127]; omega
        clear h32 h127 HC
        generalize at4 l j = x at *
        go_wp2_with fail
        go_roundw
        case rel => exact ⟨j + 1, by omega, by go_num, HC2.out, trivial⟩
        case measure => simp [intOf]; omega
    · obtain rfl : j = l.length := by omega
      have hlt' : ¬ (l.length : Int) < (l.length : Int) := by omega
      have R : Hid ((o && l.all fun b => qPass b.toNat) = o) := hideIt (by rw [HU.out HC.out, Bool.and_true])
      clear HC
      go_wp2_with fail
      go_ret
      exact ⟨by rw [R.out]; rfl, B2.out⟩
set_option maxHeartbeats 1000000 in
theorem refplainT_any (l : List UInt8) (w : World) (hl : l.length ≤ 1000000) :
    Calls Try.prog 36 #[.string (strOf l), .bool true] w fun e w' => e = .returned (.bool (okT l && l.all fun b => qNote b.toNat)) ∧ Below w.heap.size w w' := by
  have H1 := hideIt (refrunes_any l w hl)
  have hsz := strOf_size l
  have HA := hideIt (all_at qNote l)
  have HU := hideIt (all_upto qNote l)
  have HX := hideIt (index_at4 l)
  generalize okT l = o at *
  generalize runesN l = rn at *
  go_enter Try.func36, Try.ntmps36
  go_wp2_with fail
  refine H1.out.mono ?_
  rintro e w2 ⟨rfl, b2⟩
  have B2 := hideIt b2
  clear b2 H1
  go_wp2_with fail
  go_loopw [7] (fun i wr => ∃ j : Nat, j ≤ l.length ∧ i = .int .i64 (j : Int) ∧ (∀ m, m < j → qNote (at4 l m) = true) ∧ wr = w2) (fun i _ => l.length - (intOf i).toNat)
  case atStart => exact ⟨0, by omega, rfl, fun m h => by omega, rfl⟩
  case round =>
    obtain ⟨j, hj, rfl, hc, rfl⟩ := hrel
    have HC := hideIt hc
    clear hc
    by_cases hlt : j < l.length
    · have hlt' : (j : Int) < (l.length : Int) := by omega
      have hxj := HX.out j hlt
      have hwj : IntKind.i64.wrap ((j : Int) + 1) = (j : Int) + 1 := IntWalk.i64_in _ (by omega)
      have NXT : Hid (qNote (at4 l j) = true → ∀ m, m < j + 1 → qNote (at4 l m) = true) := hideIt fun hq m hm => by
        rcases Nat.lt_or_ge m j with h | h
        · exact HC.out m h
        · obtain rfl : m = j := by omega
          exact hq
      by_cases h32 : at4 l j < 32
      · have h32' : (at4 l j : Int) < 32 := by omega
        by_cases h10 : at4 l j = 10
        · have h10' : ((at4 l j : Int) == 10) = true := by rw [h10]; rfl
          have h127' : ((at4 l j : Int) == 127) = false := by rw [h10]; rfl
          have HC2 := hideIt (NXT.out (by rw [h10]; rfl))
          clear h32 h10 HC NXT
          generalize at4 l j = x at *
          go_wp2_with fail
          go_roundw
          case rel => exact ⟨j + 1, by omega, by go_num, HC2.out, trivial⟩
          case measure => simp [intOf]; omega
        · have R : Hid ((o && l.all fun b => qNote b.toNat) = false) := hideIt (by rw [HA.out j hlt (by simp [qNote, qPass, h10]; omega), Bool.and_false])
          have h10' : ((at4 l j : Int) == 10) = false := by simp; omega
          clear h32 h10 NXT
          generalize at4 l j = x at *
          go_wp2_with fail
          go_ret
          exact ⟨by rw [R.out]; rfl, B2.out⟩
      have h32' : ¬ (at4 l j : Int) < 32 := by omega
      by_cases h127 : at4 l j = 127
      · have R : Hid ((o && l.all fun b => qNote b.toNat) = false) := hideIt (by rw [HA.out j hlt (by simp [qNote, qPass, h127]), Bool.and_false])
        have h127' : ((at4 l j : Int) == 127) = true := by rw [h127]; rfl
        clear h32 h127 NXT
        generalize at4 l j = x at *
        go_wp2_with fail
        go_ret
        exact ⟨by rw [R.out]; rfl, B2.out⟩
      · have h127' : ((at4 l j : Int) == 127) = false := by simp; omega
        have HC2 := hideIt (NXT.out (by
          have a1 : 32 ≤ at4 l j := by omega
          simp [qNote, qPass, h127, a1]))
        clear h32 h127 HC NXT
        generalize at4 l j = x at *
        go_wp2_with fail
        go_roundw
        case rel => exact ⟨j + 1, by omega, by go_num, HC2.out, trivial⟩
        case measure => simp [intOf]; omega
    · obtain rfl : j = l.length := by omega
      have hlt' : ¬ (l.length : Int) < (l.length : Int) := by omega
      have R : Hid ((o && l.all fun b => qNote b.toNat) = o) := hideIt (by rw [HU.out HC.out, Bool.and_true])
      clear HC
      go_wp2_with fail
      go_ret
      exact ⟨by rw [R.out]; rfl, B2.out⟩
set_option maxHeartbeats 1000000 in
theorem refpass_any (l : List UInt8) (w : World) (hl : l.length ≤ 1000000) :
    Calls Try.prog 19 #[.string (strOf l)] w fun e w' => e = .returned (.bool (passP l)) ∧ Below w.heap.size w w' := by
  have hs := strOf_size l
  have H := hideIt (refplainF_any l w hl)
  rw [passP_eq]
  unfold passB
  by_cases h1 : 1 ≤ l.length
  · rw [decide_eq_true h1, Bool.true_and]
    have a1 : (1 : Int) ≤ (l.length : Int) := by omega
    by_cases h2 : l.length ≤ 60
    · rw [decide_eq_true h2, Bool.true_and]
      have a2 : (l.length : Int) ≤ 60 := by omega
      clear h1 h2
      generalize (okT l && l.all fun b => qPass b.toNat) = b at *
      go_enter Try.func19, Try.ntmps19
      go_wp2_with fail
      refine H.out.mono ?_
      rintro e w' ⟨rfl, hb⟩
      go_wp2_with fail
      go_ret
      exact ⟨rfl, hb⟩
    · rw [decide_eq_false h2, Bool.false_and, Bool.false_and]
      have a2 : ¬ (l.length : Int) ≤ 60 := by omega
      clear h1 h2
      go_enter Try.func19, Try.ntmps19
      go_wp2_with fail
      go_ret
      exact ⟨rfl, Below.refl _ _⟩
  · rw [decide_eq_false h1, Bool.false_and, Bool.false_and, Bool.false_and]
    have a1 : ¬ (1 : Int) ≤ (l.length : Int) := by omega
    clear h1
    go_enter Try.func19, Try.ntmps19
    go_wp2_with fail
    go_ret
    exact ⟨rfl, Below.refl _ _⟩
set_option maxHeartbeats 1000000 in
theorem refnote_any (l : List UInt8) (w : World) (hl : l.length ≤ 1000000) :
    Calls Try.prog 20 #[.string (strOf l)] w fun e w' => e = .returned (.bool (noteP l)) ∧ Below w.heap.size w w' := by
  have hs := strOf_size l
  have H := hideIt (refplainT_any l w hl)
  rw [noteP_eq]
  unfold noteB
  by_cases h2 : l.length ≤ 200
  · rw [decide_eq_true h2, Bool.true_and]
    have a2 : (l.length : Int) ≤ 200 := by omega
    clear h2
    generalize (okT l && l.all fun b => qNote b.toNat) = b at *
    go_enter Try.func20, Try.ntmps20
    go_wp2_with fail
    refine H.out.mono ?_
    rintro e w' ⟨rfl, hb⟩
    go_wp2_with fail
    go_ret
    exact ⟨rfl, hb⟩
  · rw [decide_eq_false h2, Bool.false_and, Bool.false_and]
    have a2 : ¬ (l.length : Int) ≤ 200 := by omega
    clear h2
    go_enter Try.func20, Try.ntmps20
    go_wp2_with fail
    go_ret
    exact ⟨rfl, Below.refl _ _⟩
theorem go_refpass : goFn Try.prog 19 = true := by kernel_rfl
theorem go_refnote : goFn Try.prog 20 = true := by kernel_rfl
end Go.Proofs.Ytllimlkifggakaa
