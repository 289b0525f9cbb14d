/- The contracts of the reference's more and One. -/
import Derived.Test.YtllimlkifggakaaTextFacts
import Derived.Test.YtllimlkifggakaaStrRun
import Derived.Test.YtllimlkifggakaaCmp
namespace Go.Proofs.Ytllimlkifggakaa
open Go.ChangeShapes Go.WideShapes Go.ChangeAt Go.RowKit
set_option linter.unusedVariables false
set_option linter.unusedSimpArgs false

/-- how many bytes stand behind a first one -/
def mI (x : Nat) : Int := if x < 128 then 0 else if 194 ≤ x ∧ x ≤ 223 then 1 else if 224 ≤ x ∧ x ≤ 239 then 2 else if 240 ≤ x ∧ x ≤ 244 then 3 else -1
theorem mI_is (x : Nat) (n : Nat) (h : mI x = (n : Int)) : (x < 128 ∧ n = 0) ∨ (194 ≤ x ∧ x ≤ 223 ∧ n = 1) ∨ (224 ≤ x ∧ x ≤ 239 ∧ n = 2) ∨ (240 ≤ x ∧ x ≤ 244 ∧ n = 3) := by
  unfold mI at h
  repeat' split at h
  all_goals omega
theorem mI_neg (x : Nat) (h : mI x < 0) : 128 ≤ x ∧ ¬ (194 ≤ x ∧ x ≤ 244) := by
  unfold mI at h
  repeat' split at h
  all_goals omega
theorem mI_range (x : Nat) : -1 ≤ mI x ∧ mI x ≤ 3 := by
  unfold mI
  repeat' split
  all_goals omega
set_option maxHeartbeats 1000000 in
theorem more_any (x : Nat) (w : World) (hx : x < 256) :
    Calls Try.prog 39 #[.int .u8 (x : Int)] w fun e w' => e = .returned (.int .i64 (mI x)) ∧ w' = w := by
  unfold mI
  by_cases h1 : x < 128
  · rw [if_pos h1]
    have a1 : (x : Int) < 128 := by omega
    clear h1
    go_enter Try.func39, Try.ntmps39
    go_wp2
    go_ret
    exact ⟨rfl, rfl⟩
  rw [if_neg h1]
  have a1 : ¬ (x : Int) < 128 := by omega
  by_cases h2 : x < 194
  · rw [if_neg (by omega), if_neg (by omega), if_neg (by omega)]
    have a2 : ¬ (194 : Int) ≤ x := by omega
    have a3 : ¬ (224 : Int) ≤ x := by omega
    have a4 : ¬ (240 : Int) ≤ x := by omega
    clear h1 h2
    go_enter Try.func39, Try.ntmps39
    go_wp2
    go_ret
    exact ⟨rfl, rfl⟩
  have a2 : (194 : Int) ≤ x := by omega
  by_cases h3 : x ≤ 223
  · rw [if_pos (by omega)]
    have a3 : (x : Int) ≤ 223 := by omega
    clear h1 h2 h3
    go_enter Try.func39, Try.ntmps39
    go_wp2
    go_ret
    exact ⟨rfl, rfl⟩
  have a3 : ¬ (x : Int) ≤ 223 := by omega
  have a4 : (224 : Int) ≤ x := by omega
  rw [if_neg (by omega)]
  by_cases h4 : x ≤ 239
  · rw [if_pos (by omega)]
    have a5 : (x : Int) ≤ 239 := by omega
    clear h1 h2 h3 h4
    go_enter Try.func39, Try.ntmps39
    go_wp2
    go_ret
    exact ⟨rfl, rfl⟩
  have a5 : ¬ (x : Int) ≤ 239 := by omega
  have a6 : (240 : Int) ≤ x := by omega
  rw [if_neg (by omega)]
  by_cases h5 : x ≤ 244
  · rw [if_pos (by omega)]
    have a7 : (x : Int) ≤ 244 := by omega
    clear h1 h2 h3 h4 h5
    go_enter Try.func39, Try.ntmps39
    go_wp2
    go_ret
    exact ⟨rfl, rfl⟩
  · rw [if_neg (by omega)]
    have a7 : ¬ (x : Int) ≤ 244 := by omega
    clear h1 h2 h3 h4 h5
    go_enter Try.func39, Try.ntmps39
    go_wp2
    go_ret
    exact ⟨rfl, rfl⟩
theorem go_more : goFn Try.prog 39 = true := by kernel_rfl
def baseR (x n : Nat) : Nat := if n = 0 then x else x % (64 / 2 ^ n)
def accR (l : List UInt8) (n : Nat) : Nat → Nat
  | 0 => baseR (at4 l 0) n
  | i + 1 => 64 * accR l n i + at4 l (i + 1) % 64
def leastR (n : Nat) : Nat := ([0, 128, 2048, 65536] : List Nat).getD n 0
theorem accR_lt (l : List UInt8) (n i : Nat) : accR l n i < 256 * 64 ^ i := by
  induction i with
  | zero =>
    have := at4_lt l 0
    show baseR (at4 l 0) n < _
    unfold baseR
    split
    · omega
    · have := Nat.mod_le (at4 l 0) (64 / 2 ^ n)
      omega
  | succ i ih =>
    show 64 * accR l n i + at4 l (i + 1) % 64 < _
    rw [Nat.pow_succ]
    omega
theorem accR_small (l : List UInt8) (n i : Nat) (h : i ≤ 3) : accR l n i < 67108864 := by
  have h1 := accR_lt l n i
  have h2 : 64 ^ i ≤ 64 ^ 3 := Nat.pow_le_pow_right (by omega) h
  omega
theorem none_bad {l : List UInt8} (h : dec l = (65533, 1)) (h0 : 128 ≤ at4 l 0) : goodL l = false := by
  cases hg : goodL l
  · rfl
  · rw [good_iff, wd, h] at hg
    rcases hg with h' | h'
    · exact absurd rfl h'
    · omega
theorem bad_class (l : List UInt8) (h : mI (at4 l 0) < 0) : goodL l = false := by
  have := mI_neg _ h
  rcases told l with ⟨q0, e⟩ | ⟨_, q0, q1, e⟩ | ⟨_, q0, q1, q2, qr, qs, e⟩ | ⟨_, q0, q1, q2, q3, qr, qs, e⟩ | ⟨q0, _, _, _, e⟩
  · omega
  · omega
  · omega
  · omega
  · exact none_bad e q0
theorem bad_short (l : List UInt8) (n : Nat) (h : mI (at4 l 0) = (n : Int)) (hl : 1 ≤ l.length) (hn : l.length ≤ n) : goodL l = false := by
  have := mI_is _ _ h
  rcases told l with ⟨q0, e⟩ | ⟨_, q0, q1, e⟩ | ⟨_, q0, q1, q2, qr, qs, e⟩ | ⟨_, q0, q1, q2, q3, qr, qs, e⟩ | ⟨q0, _, _, _, e⟩
  · omega
  · omega
  · omega
  · omega
  · exact none_bad e q0
theorem bad_cont (l : List UInt8) (n j : Nat) (h : mI (at4 l 0) = (n : Int)) (h1 : 1 ≤ j) (hj : j ≤ n) (hx : at4 l j < 128 ∨ 191 < at4 l j) : goodL l = false := by
  have := mI_is _ _ h
  have j3 : j = 1 ∨ j = 2 ∨ j = 3 := by omega
  rcases told l with ⟨q0, e⟩ | ⟨_, q0, q1, e⟩ | ⟨_, q0, q1, q2, qr, qs, e⟩ | ⟨_, q0, q1, q2, q3, qr, qs, e⟩ | ⟨q0, _, _, _, e⟩
  · omega
  · rcases j3 with rfl | rfl | rfl <;> omega
  · rcases j3 with rfl | rfl | rfl <;> omega
  · rcases j3 with rfl | rfl | rfl <;> omega
  · exact none_bad e q0
theorem accR_0 (l : List UInt8) : accR l 0 0 = at4 l 0 := rfl
theorem accR_1 (l : List UInt8) : accR l 1 1 = at4 l 0 % 32 * 64 + at4 l 1 % 64 := by show 64 * (at4 l 0 % 32) + at4 l 1 % 64 = _; omega
theorem accR_2 (l : List UInt8) : accR l 2 2 = at4 l 0 % 16 * 4096 + at4 l 1 % 64 * 64 + at4 l 2 % 64 := by show 64 * (64 * (at4 l 0 % 16) + at4 l 1 % 64) + at4 l 2 % 64 = _; omega
theorem accR_3 (l : List UInt8) : accR l 3 3 = at4 l 0 % 8 * 262144 + at4 l 1 % 64 * 4096 + at4 l 2 % 64 * 64 + at4 l 3 % 64 := by show 64 * (64 * (64 * (at4 l 0 % 8) + at4 l 1 % 64) + at4 l 2 % 64) + at4 l 3 % 64 = _; omega
theorem fin_bad (l : List UInt8) (n : Nat) (h : mI (at4 l 0) = (n : Int)) (hb : accR l n n < leastR n ∨ (55296 ≤ accR l n n ∧ accR l n n ≤ 57343) ∨ 1114111 < accR l n n) : goodL l = false := by
  have hi := mI_is _ _ h
  have c0 := at4_lt l 0
  have c1 := at4_lt l 1
  rcases hi with ⟨_, rfl⟩ | ⟨_, _, rfl⟩ | ⟨_, _, rfl⟩ | ⟨_, _, rfl⟩
  · rw [accR_0, show leastR 0 = 0 from rfl] at hb; omega
  · rw [accR_1, show leastR 1 = 128 from rfl] at hb; omega
  · rw [accR_2, show leastR 2 = 2048 from rfl] at hb
    rcases told l with ⟨q0, e⟩ | ⟨_, q0, q1, e⟩ | ⟨_, q0, q1, q2, qr, qs, e⟩ | ⟨_, q0, q1, q2, q3, qr, qs, e⟩ | ⟨q0, _, _, _, e⟩
    · omega
    · omega
    · omega
    · omega
    · exact none_bad e q0
  · rw [accR_3, show leastR 3 = 65536 from rfl] at hb
    rcases told l with ⟨q0, e⟩ | ⟨_, q0, q1, e⟩ | ⟨_, q0, q1, q2, qr, qs, e⟩ | ⟨_, q0, q1, q2, q3, qr, qs, e⟩ | ⟨q0, _, _, _, e⟩
    · omega
    · omega
    · omega
    · omega
    · exact none_bad e q0
theorem fin_good (l : List UInt8) (n : Nat) (h : mI (at4 l 0) = (n : Int)) (hn : n < l.length) (hc : ∀ j, 1 ≤ j → j ≤ n → 128 ≤ at4 l j ∧ at4 l j ≤ 191) (hb : ¬ (accR l n n < leastR n ∨ (55296 ≤ accR l n n ∧ accR l n n ≤ 57343) ∨ 1114111 < accR l n n)) :
    goodL l = true ∧ dec l = (accR l n n, n + 1) := by
  have hi := mI_is _ _ h
  have c0 := at4_lt l 0
  have gd : ∀ k, dec l = (accR l n n, k) → k ≠ 1 ∨ at4 l 0 < 128 → goodL l = true := fun k e hk => by rw [good_iff, wd, e]; exact hk
  rcases hi with ⟨_, rfl⟩ | ⟨_, _, rfl⟩ | ⟨_, _, rfl⟩ | ⟨_, _, rfl⟩
  · have e : dec l = (accR l 0 0, 1) := by
      rw [accR_0]
      rcases told l with ⟨q0, e⟩ | ⟨_, q0, q1, e⟩ | ⟨_, q0, q1, q2, qr, qs, e⟩ | ⟨_, q0, q1, q2, q3, qr, qs, e⟩ | ⟨q0, _, _, _, e⟩
      · exact e
      all_goals (exfalso; omega)
    exact ⟨gd 1 e (by omega), e⟩
  · have k1 := hc 1 (by omega) (by omega)
    have e : dec l = (accR l 1 1, 2) := by
      rw [accR_1]
      rcases told l with ⟨q0, e⟩ | ⟨_, q0, q1, e⟩ | ⟨_, q0, q1, q2, qr, qs, e⟩ | ⟨_, q0, q1, q2, q3, qr, qs, e⟩ | ⟨q0, n2, n3, n4, e⟩
      · exfalso; omega
      · exact e
      · exfalso; omega
      · exfalso; omega
      · exact absurd (by omega) n2
    exact ⟨gd 2 e (by omega), e⟩
  · have k1 := hc 1 (by omega) (by omega)
    have k2 := hc 2 (by omega) (by omega)
    have e : dec l = (accR l 2 2, 3) := by
      rw [accR_2, show leastR 2 = 2048 from rfl] at hb
      rw [accR_2]
      rcases told l with ⟨q0, e⟩ | ⟨_, q0, q1, e⟩ | ⟨_, q0, q1, q2, qr, qs, e⟩ | ⟨_, q0, q1, q2, q3, qr, qs, e⟩ | ⟨q0, n2, n3, n4, e⟩
      · exfalso; omega
      · exfalso; omega
      · exact e
      · exfalso; omega
      · exact absurd (by omega) n3
    exact ⟨gd 3 e (by omega), e⟩
  · have k1 := hc 1 (by omega) (by omega)
    have k2 := hc 2 (by omega) (by omega)
    have k3 := hc 3 (by omega) (by omega)
    have e : dec l = (accR l 3 3, 4) := by
      rw [accR_3, show leastR 3 = 65536 from rfl] at hb
      rw [accR_3]
      rcases told l with ⟨q0, e⟩ | ⟨_, q0, q1, e⟩ | ⟨_, q0, q1, q2, qr, qs, e⟩ | ⟨_, q0, q1, q2, q3, qr, qs, e⟩ | ⟨q0, n2, n3, n4, e⟩
      · exfalso; omega
      · exfalso; omega
      · exfalso; omega
      · exact e
      · exact absurd (by omega) n4
    exact ⟨gd 4 e (by omega), e⟩
theorem run_shr6 (n : Nat) (h : n ≤ 3) (w : World) : (binOp .shr 3 (.int .i64 64) (.int .u64 (n : Int))).run Try.prog w = .ok (.int .i64 ((64 / 2 ^ n : Nat) : Int)) w := by
  match n, h with
  | 0, _ => go_simp
  | 1, _ => go_simp
  | 2, _ => go_simp
  | 3, _ => go_simp
end Go.Proofs.Ytllimlkifggakaa
