/- The walk of the statement NumAdds: it answers true for all numbers and texts. -/
import Derived.Test.YtghmhiigldfdoaaWPast
import Derived.Test.YtghmhiigldfdoaaDigits
import Derived.Test.YtghmhiigldfdoaaRefDec
namespace Go.Proofs.Ytghmhiigldfdoaa
open Go.ChangeShapes Go.WideShapes Go.ChangeAt Go.RowKit
set_option linter.unusedVariables false

/-- Decimal of a number's own digits -/
theorem dec_of (n : Nat) (most z : Int) (p : Bool) (w : World) (hn : n < 4294967296) (hm : (Lit.int .i64 most).wf = true) (hz : decV (digL n) most = z) (hp : decB (digL n) most = p) :
    Calls Try.prog 10 #[.string ⟨(digL n).toArray⟩, .int .i64 most] w fun e w' => e = .returned (.tuple #[.int .i64 z, .bool p]) ∧ Below w.heap.size w w' := by
  subst hz hp
  have hl : (digL n).length ≤ 10 := (digL_len 9 n).2 (by omega)
  exact dec_any ⟨(digL n).toArray⟩ most w (by simp [ByteArray.size]; unfold maxLen; omega) hm

theorem digits_is {x : Int} {n : Nat} (w : World) (hn : n < 4294967296) (h : x = n) :
    Calls Try.prog 12 #[.int .i64 x] w fun e w' => e = .returned (.string ⟨(digL n).toArray⟩) ∧ Below w.heap.size w w' := h ▸ digits_any n w hn
theorem u64_wrap (x : Int) : U64 (IntKind.u64.wrap x) := by
  rw [IntKind.wrap_u64]; unfold U64; omega
theorem wf_small {x : Int} (h1 : -1 ≤ x) (h2 : x ≤ 4294967296) : (Lit.int .i64 x).wf = true := by
  have e1 : IntKind.i64.min = -9223372036854775808 := by decide
  have e2 : IntKind.i64.max = 9223372036854775807 := by decide
  simp only [Lit.wf, e1, e2, Bool.and_eq_true, decide_eq_true_eq]
  omega

set_option maxRecDepth 100000 in
set_option maxHeartbeats 1000000 in
theorem numAdds_walk (a0 : Int) (a1 : Int) (a2 : Int) (s3 : ByteArray) (a4 : Int) (a5 : Int) (w0 : (Lit.int .u64 a0).wf = true) (w1 : (Lit.int .u64 a1).wf = true) (w2 : (Lit.int .u64 a2).wf = true) (w3 : s3.size ≤ maxLen) (w4 : (Lit.int .i64 a4).wf = true) (w5 : (Lit.int .u32 a5).wf = true) (w : World) :
    Calls Try.prog 3 #[.int .u64 a0, .int .u64 a1, .int .u64 a2, .string s3, .int .i64 a4, .int .u32 a5] w fun e w' => e = .returned (.bool true) ∧ Below w.heap.size w w' := by
  have u0 := hideIt (u64_of_wf w0)
  have u1 := hideIt (u64_of_wf w1)
  have u2 := hideIt (u64_of_wf w2)
  have H3 := hideIt w3
  have H4 := hideIt w4
  have hs3 : (s3.size : Int) ≤ 9223372036854775807 := by unfold maxLen at w3; omega
  obtain ⟨b50, b51⟩ := bounds_u32 w5
  have b00 : 0 ≤ a0 := u0.out.1
  have b01 : a0 < 18446744073709551616 := u0.out.2
  have b20 : 0 ≤ a2 := u2.out.1
  have b21 : a2 < 18446744073709551616 := u2.out.2
  clear w0 w1 w2 w3 w4 w5
  obtain ⟨n, NE⟩ : ∃ n : Nat, Hid (a5 = n) := ⟨a5.toNat, hideIt (by omega)⟩
  have HN := hideIt (show n < 4294967296 by have := NE.out; omega)
  by_cases h50 : 50 < s3.size
  · go_enter Try.func3, Try.ntmps3
    go_wp2_with fail
    refine (known_any _).mono ?_
    rintro e w1 ⟨rfl, hb⟩
    go_wp2
    go_ret
    exact ⟨rfl, hb⟩
  · obtain ⟨x, X, X'⟩ : ∃ x, Hid (satAdd a0 a1 = x) ∧ True := ⟨_, hideIt rfl, trivial⟩
    obtain ⟨y, Y, Y'⟩ : ∃ x, Hid (decV s3.data.toList a4 = x) ∧ True := ⟨_, hideIt rfl, trivial⟩
    obtain ⟨z, Z, Z'⟩ : ∃ x, Hid (decB s3.data.toList a4 = x) ∧ True := ⟨_, hideIt rfl, trivial⟩
    obtain ⟨p, P, P'⟩ : ∃ x, Hid (pastB a0 a1 a2 = x) ∧ True := ⟨_, hideIt rfl, trivial⟩
    clear X' Y' Z' P'
    obtain ⟨q, Q, Q'⟩ : ∃ x, Hid (pastB a0 (IntKind.u64.wrap (a0 - a2 % 8)) (a2 % 9) = x) ∧ True := ⟨_, hideIt rfl, trivial⟩
    clear Q'
    have L := hideIt (show decB (digL n) (a5 - 1) = false by rw [NE.out]; exact dec_digL_less n)
    have ux := hideIt (u64_wrap (a0 - a2 % 8))
    have uy := hideIt (show U64 (a2 % 9) by unfold U64; omega)
    obtain ⟨v, d, V, D1, hvd⟩ : ∃ (v : Int) (d : Bool), Hid (decV (digL n) a5 = v) ∧ Hid (decB (digL n) a5 = d) ∧ ((a5 < 1000000000 ∧ v = a5 ∧ d = true) ∨ (1000000000 ≤ a5 ∧ d = false)) := by
      refine ⟨_, _, hideIt rfl, hideIt rfl, ?_⟩
      rw [NE.out, dec_digL]
      by_cases h9 : n < 1000000000
      · exact .inl ⟨by omega, decV_digL n h9, decide_eq_true h9⟩
      · exact .inr ⟨by omega, decide_eq_false h9⟩
    rcases hvd with ⟨h9, rfl, rfl⟩ | ⟨h9, rfl⟩
    all_goals
      go_enter Try.func3, Try.ntmps3
      go_wp2_with fail
      refine (known_any _).mono ?_
      rintro e w1 ⟨rfl, hb1⟩
      go_wp2_with fail
      refine (dec_any _ _ _ H3.out H4.out).mono ?_
      rintro e w2 ⟨rfl, hb2⟩
      rw [Y.out, Z.out]
      go_wp2_with fail
      refine (refdec_any _ _ _ H3.out H4.out).mono ?_
      rintro e w3 ⟨rfl, rfl⟩
      rw [Y.out, Z.out]
      go_wp2_with fail
      refine (digits_is _ HN.out NE.out).mono ?_
      rintro e w3 ⟨rfl, hb3⟩
      go_wp2_with fail
      refine (dec_of n _ _ _ _ HN.out (wf_small (by omega) (by omega)) V.out D1.out).mono ?_
      rintro e w4 ⟨rfl, hb4⟩
      go_wp2_with fail
      refine (dec_of n _ _ _ _ HN.out (wf_small (by omega) (by omega)) (decV_false L.out) L.out).mono ?_
      rintro e w5 ⟨rfl, hb5⟩
      go_wp2_with fail
      refine (add_is _ u0.out u1.out X.out).mono ?_
      rintro e w6 ⟨rfl, rfl⟩
      go_wp2_with fail
      refine (refadd_any _ _ _ u0.out u1.out).mono ?_
      rintro e w6 ⟨rfl, rfl⟩
      rw [X.out]
      go_wp2_with fail
      refine (past_is _ u0.out u1.out u2.out P.out).mono ?_
      rintro e w6 ⟨rfl, rfl⟩
      go_wp2_with fail
      refine (refpast_any _ _ _ _ u0.out u1.out u2.out).mono ?_
      rintro e w6 ⟨rfl, rfl⟩
      rw [P.out]
      go_wp2_with fail
      refine (past_is _ u0.out ux.out uy.out Q.out).mono ?_
      rintro e w6 ⟨rfl, rfl⟩
      go_wp2_with fail
      refine (refpast_any _ _ _ _ u0.out ux.out uy.out).mono ?_
      rintro e w6 ⟨rfl, rfl⟩
      rw [Q.out]
      go_wp2
      go_ret
      exact ⟨by first | rfl | exact ret_true (by simp; omega), below_then hb1 (below_then hb2 (below_then hb3 (below_then hb4 hb5)))⟩
end Go.Proofs.Ytghmhiigldfdoaa
