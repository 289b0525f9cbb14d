/- The walk of the statement NumBack: it answers true for all numbers that fit. -/
import Derived.Test.YtghmhiigldfdoaaWTop
import Derived.Test.YtghmhiigldfdoaaBytes
namespace Go.Proofs.Ytghmhiigldfdoaa
open Go.ChangeShapes Go.WideShapes Go.ChangeAt Go.RowKit
set_option linter.unusedVariables false

/-- Put: what comes out can be read, and is new -/
theorem put_reads (n : Nat) (wide : Int) (k : Nat) (w : World) (hn : n < 18446744073709551616) (hk : clip8 wide = k) :
    Calls Try.prog 17 #[.int .u64 n, .int .i64 wide] w fun e w' => e = .returned (.slice (some ⟨w.heap.size, 0, none⟩) k k) ∧ BytesAt w' w'.heap.size (some ⟨w.heap.size, 0, none⟩) (putL n k) ∧ Below w.heap.size w w' := by
  subst hk
  exact (put_any n wide w hn).mono fun e w' ⟨h1, h2, h3⟩ => ⟨h1, own_bytes h2, h3⟩
/-- Get of what Put told -/
theorem get_put (n k m B : Nat) (A : Option Addr) (w : World) (hk : k ≤ 8) (hb : BytesAt w B A (putL n k)) (hm : n % 256 ^ k = m) :
    Calls Try.prog 18 #[.slice A k k] w fun e w' => e = .returned (.int .u64 (m : Nat)) ∧ w = w' := by
  subst hm
  have h := get_any A (putL n k) k B w hb (by rw [putL_length]; omega) (by rw [putL_length]; omega)
  rw [last8_short (by rw [putL_length]; exact hk), getN_putL, putL_length] at h
  exact h

set_option maxHeartbeats 400000 in
theorem numBack_walk (a0 : Int) (a1 : Int) (w0 : (Lit.int .u64 a0).wf = true) (w1 : (Lit.int .u8 a1).wf = true) (w : World) :
    Calls Try.prog 4 #[.int .u64 a0, .int .u8 a1] w fun e w' => e = .returned (.bool true) ∧ Below w.heap.size w w' := by
  obtain ⟨b0, b1⟩ := u64_of_wf w0
  obtain ⟨b2, b3⟩ := bounds_u8 w1
  clear w0 w1
  obtain ⟨n, rfl⟩ : ∃ n : Nat, a0 = n := ⟨a0.toNat, by omega⟩
  obtain ⟨k, rfl⟩ : ∃ n : Nat, a1 = n := ⟨a1.toNat, by omega⟩
  have HN := hideIt (show n < 18446744073709551616 by omega)
  rcases (show (k : Int) % 9 = 0 ∨ (k : Int) % 9 = 1 ∨ (k : Int) % 9 = 2 ∨ (k : Int) % 9 = 3 ∨ (k : Int) % 9 = 4 ∨ (k : Int) % 9 = 5 ∨ (k : Int) % 9 = 6 ∨ (k : Int) % 9 = 7 ∨ (k : Int) % 9 = 8 by omega) with hk9 | hk9 | hk9 | hk9 | hk9 | hk9 | hk9 | hk9 | hk9
  · have HM : Hid (n % 256 ^ 0 = 0) := hideIt (Nat.mod_one n)
    go_enter Try.func4, Try.ntmps4
    go_wp2_with fail
    refine (put_reads n _ 0 _ HN.out rfl).mono ?_
    rintro e w1 ⟨rfl, r1, hb1⟩
    have z1 := hideIt hb1.size
    go_wp2_with fail
    refine (known_any _).mono ?_
    rintro e w2 ⟨rfl, hb2⟩
    have r2 := r1.keep fun p hp => hb2.cell hp
    clear r1
    go_wp2_with fail
    refine (get_put n 0 _ _ _ _ (by omega) r2 HM.out).mono ?_
    rintro e w3 ⟨rfl, rfl⟩
    go_wp2_with fail
    refine (put_reads n 8 8 _ HN.out rfl).mono ?_
    rintro e w3 ⟨rfl, r3, hb3⟩
    go_wp2_with fail
    refine (get_put n 8 n _ _ _ (by omega) r3 (Nat.mod_eq_of_lt HN.out)).mono ?_
    rintro e w4 ⟨rfl, rfl⟩
    go_wp2
    go_ret
    exact ⟨rfl, hb1.trans ((hb2.mono z1.out).trans (hb3.mono (Nat.le_trans z1.out hb2.size)))⟩
  · obtain ⟨m, HM, hm⟩ : ∃ m, Hid (n % 256 ^ 1 = m) ∧ (n : Int) % 256 = (m : Int) := ⟨n % 256 ^ 1, hideIt rfl, by omega⟩
    go_enter Try.func4, Try.ntmps4
    go_wp2_with fail
    refine (put_reads n _ 1 _ HN.out rfl).mono ?_
    rintro e w1 ⟨rfl, r1, hb1⟩
    have z1 := hideIt hb1.size
    go_wp2_with fail
    refine (known_any _).mono ?_
    rintro e w2 ⟨rfl, hb2⟩
    have r2 := r1.keep fun p hp => hb2.cell hp
    clear r1
    go_wp2_with fail
    refine (get_put n 1 _ _ _ _ (by omega) r2 HM.out).mono ?_
    rintro e w3 ⟨rfl, rfl⟩
    go_wp2_with fail
    refine (put_reads n 8 8 _ HN.out rfl).mono ?_
    rintro e w3 ⟨rfl, r3, hb3⟩
    go_wp2_with fail
    refine (get_put n 8 n _ _ _ (by omega) r3 (Nat.mod_eq_of_lt HN.out)).mono ?_
    rintro e w4 ⟨rfl, rfl⟩
    go_wp2
    go_ret
    exact ⟨rfl, hb1.trans ((hb2.mono z1.out).trans (hb3.mono (Nat.le_trans z1.out hb2.size)))⟩
  · obtain ⟨m, HM, hm⟩ : ∃ m, Hid (n % 256 ^ 2 = m) ∧ (n : Int) % 65536 = (m : Int) := ⟨n % 256 ^ 2, hideIt rfl, by omega⟩
    go_enter Try.func4, Try.ntmps4
    go_wp2_with fail
    refine (put_reads n _ 2 _ HN.out rfl).mono ?_
    rintro e w1 ⟨rfl, r1, hb1⟩
    have z1 := hideIt hb1.size
    go_wp2_with fail
    refine (known_any _).mono ?_
    rintro e w2 ⟨rfl, hb2⟩
    have r2 := r1.keep fun p hp => hb2.cell hp
    clear r1
    go_wp2_with fail
    refine (get_put n 2 _ _ _ _ (by omega) r2 HM.out).mono ?_
    rintro e w3 ⟨rfl, rfl⟩
    go_wp2_with fail
    refine (put_reads n 8 8 _ HN.out rfl).mono ?_
    rintro e w3 ⟨rfl, r3, hb3⟩
    go_wp2_with fail
    refine (get_put n 8 n _ _ _ (by omega) r3 (Nat.mod_eq_of_lt HN.out)).mono ?_
    rintro e w4 ⟨rfl, rfl⟩
    go_wp2
    go_ret
    exact ⟨rfl, hb1.trans ((hb2.mono z1.out).trans (hb3.mono (Nat.le_trans z1.out hb2.size)))⟩
  · obtain ⟨m, HM, hm⟩ : ∃ m, Hid (n % 256 ^ 3 = m) ∧ (n : Int) % 16777216 = (m : Int) := ⟨n % 256 ^ 3, hideIt rfl, by omega⟩
    go_enter Try.func4, Try.ntmps4
    go_wp2_with fail
    refine (put_reads n _ 3 _ HN.out rfl).mono ?_
    rintro e w1 ⟨rfl, r1, hb1⟩
    have z1 := hideIt hb1.size
    go_wp2_with fail
    refine (known_any _).mono ?_
    rintro e w2 ⟨rfl, hb2⟩
    have r2 := r1.keep fun p hp => hb2.cell hp
    clear r1
    go_wp2_with fail
    refine (get_put n 3 _ _ _ _ (by omega) r2 HM.out).mono ?_
    rintro e w3 ⟨rfl, rfl⟩
    go_wp2_with fail
    refine (put_reads n 8 8 _ HN.out rfl).mono ?_
    rintro e w3 ⟨rfl, r3, hb3⟩
    go_wp2_with fail
    refine (get_put n 8 n _ _ _ (by omega) r3 (Nat.mod_eq_of_lt HN.out)).mono ?_
    rintro e w4 ⟨rfl, rfl⟩
    go_wp2
    go_ret
    exact ⟨rfl, hb1.trans ((hb2.mono z1.out).trans (hb3.mono (Nat.le_trans z1.out hb2.size)))⟩
  · obtain ⟨m, HM, hm⟩ : ∃ m, Hid (n % 256 ^ 4 = m) ∧ (n : Int) % 4294967296 = (m : Int) := ⟨n % 256 ^ 4, hideIt rfl, by omega⟩
    go_enter Try.func4, Try.ntmps4
    go_wp2_with fail
    refine (put_reads n _ 4 _ HN.out rfl).mono ?_
    rintro e w1 ⟨rfl, r1, hb1⟩
    have z1 := hideIt hb1.size
    go_wp2_with fail
    refine (known_any _).mono ?_
    rintro e w2 ⟨rfl, hb2⟩
    have r2 := r1.keep fun p hp => hb2.cell hp
    clear r1
    go_wp2_with fail
    refine (get_put n 4 _ _ _ _ (by omega) r2 HM.out).mono ?_
    rintro e w3 ⟨rfl, rfl⟩
    go_wp2_with fail
    refine (put_reads n 8 8 _ HN.out rfl).mono ?_
    rintro e w3 ⟨rfl, r3, hb3⟩
    go_wp2_with fail
    refine (get_put n 8 n _ _ _ (by omega) r3 (Nat.mod_eq_of_lt HN.out)).mono ?_
    rintro e w4 ⟨rfl, rfl⟩
    go_wp2
    go_ret
    exact ⟨rfl, hb1.trans ((hb2.mono z1.out).trans (hb3.mono (Nat.le_trans z1.out hb2.size)))⟩
  · obtain ⟨m, HM, hm⟩ : ∃ m, Hid (n % 256 ^ 5 = m) ∧ (n : Int) % 1099511627776 = (m : Int) := ⟨n % 256 ^ 5, hideIt rfl, by omega⟩
    go_enter Try.func4, Try.ntmps4
    go_wp2_with fail
    refine (put_reads n _ 5 _ HN.out rfl).mono ?_
    rintro e w1 ⟨rfl, r1, hb1⟩
    have z1 := hideIt hb1.size
    go_wp2_with fail
    refine (known_any _).mono ?_
    rintro e w2 ⟨rfl, hb2⟩
    have r2 := r1.keep fun p hp => hb2.cell hp
    clear r1
    go_wp2_with fail
    refine (get_put n 5 _ _ _ _ (by omega) r2 HM.out).mono ?_
    rintro e w3 ⟨rfl, rfl⟩
    go_wp2_with fail
    refine (put_reads n 8 8 _ HN.out rfl).mono ?_
    rintro e w3 ⟨rfl, r3, hb3⟩
    go_wp2_with fail
    refine (get_put n 8 n _ _ _ (by omega) r3 (Nat.mod_eq_of_lt HN.out)).mono ?_
    rintro e w4 ⟨rfl, rfl⟩
    go_wp2
    go_ret
    exact ⟨rfl, hb1.trans ((hb2.mono z1.out).trans (hb3.mono (Nat.le_trans z1.out hb2.size)))⟩
  · obtain ⟨m, HM, hm⟩ : ∃ m, Hid (n % 256 ^ 6 = m) ∧ (n : Int) % 281474976710656 = (m : Int) := ⟨n % 256 ^ 6, hideIt rfl, by omega⟩
    go_enter Try.func4, Try.ntmps4
    go_wp2_with fail
    refine (put_reads n _ 6 _ HN.out rfl).mono ?_
    rintro e w1 ⟨rfl, r1, hb1⟩
    have z1 := hideIt hb1.size
    go_wp2_with fail
    refine (known_any _).mono ?_
    rintro e w2 ⟨rfl, hb2⟩
    have r2 := r1.keep fun p hp => hb2.cell hp
    clear r1
    go_wp2_with fail
    refine (get_put n 6 _ _ _ _ (by omega) r2 HM.out).mono ?_
    rintro e w3 ⟨rfl, rfl⟩
    go_wp2_with fail
    refine (put_reads n 8 8 _ HN.out rfl).mono ?_
    rintro e w3 ⟨rfl, r3, hb3⟩
    go_wp2_with fail
    refine (get_put n 8 n _ _ _ (by omega) r3 (Nat.mod_eq_of_lt HN.out)).mono ?_
    rintro e w4 ⟨rfl, rfl⟩
    go_wp2
    go_ret
    exact ⟨rfl, hb1.trans ((hb2.mono z1.out).trans (hb3.mono (Nat.le_trans z1.out hb2.size)))⟩
  · obtain ⟨m, HM, hm⟩ : ∃ m, Hid (n % 256 ^ 7 = m) ∧ (n : Int) % 72057594037927936 = (m : Int) := ⟨n % 256 ^ 7, hideIt rfl, by omega⟩
    go_enter Try.func4, Try.ntmps4
    go_wp2_with fail
    refine (put_reads n _ 7 _ HN.out rfl).mono ?_
    rintro e w1 ⟨rfl, r1, hb1⟩
    have z1 := hideIt hb1.size
    go_wp2_with fail
    refine (known_any _).mono ?_
    rintro e w2 ⟨rfl, hb2⟩
    have r2 := r1.keep fun p hp => hb2.cell hp
    clear r1
    go_wp2_with fail
    refine (get_put n 7 _ _ _ _ (by omega) r2 HM.out).mono ?_
    rintro e w3 ⟨rfl, rfl⟩
    go_wp2_with fail
    refine (put_reads n 8 8 _ HN.out rfl).mono ?_
    rintro e w3 ⟨rfl, r3, hb3⟩
    go_wp2_with fail
    refine (get_put n 8 n _ _ _ (by omega) r3 (Nat.mod_eq_of_lt HN.out)).mono ?_
    rintro e w4 ⟨rfl, rfl⟩
    go_wp2
    go_ret
    exact ⟨rfl, hb1.trans ((hb2.mono z1.out).trans (hb3.mono (Nat.le_trans z1.out hb2.size)))⟩
  · have HM : Hid (n % 256 ^ 8 = n) := hideIt (Nat.mod_eq_of_lt HN.out)
    go_enter Try.func4, Try.ntmps4
    go_wp2_with fail
    refine (put_reads n _ 8 _ HN.out rfl).mono ?_
    rintro e w1 ⟨rfl, r1, hb1⟩
    have z1 := hideIt hb1.size
    go_wp2_with fail
    refine (known_any _).mono ?_
    rintro e w2 ⟨rfl, hb2⟩
    have r2 := r1.keep fun p hp => hb2.cell hp
    clear r1
    go_wp2_with fail
    refine (get_put n 8 _ _ _ _ (by omega) r2 HM.out).mono ?_
    rintro e w3 ⟨rfl, rfl⟩
    go_wp2_with fail
    refine (put_reads n 8 8 _ HN.out rfl).mono ?_
    rintro e w3 ⟨rfl, r3, hb3⟩
    go_wp2_with fail
    refine (get_put n 8 n _ _ _ (by omega) r3 (Nat.mod_eq_of_lt HN.out)).mono ?_
    rintro e w4 ⟨rfl, rfl⟩
    go_wp2
    go_ret
    exact ⟨rfl, hb1.trans ((hb2.mono z1.out).trans (hb3.mono (Nat.le_trans z1.out hb2.size)))⟩
end Go.Proofs.Ytghmhiigldfdoaa
