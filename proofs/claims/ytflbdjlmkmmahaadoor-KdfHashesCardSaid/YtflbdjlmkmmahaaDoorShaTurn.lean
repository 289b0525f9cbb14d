/- The contracts of math/bits.RotateLeft32 (to the right), sha.rot, sha.spread0, sha.spread1 and sha.turn. -/
import Derived.Test.YtflbdjlmkmmahaaDoorBase
import Derived.Test.YtflbdjlmkmmahaaDoorShaPlain
import Derived.BigQuiet
namespace Go.Proofs.YtflbdjlmkmmahaaDoor
open Go.ChangeShapes Go.WideShapes Go.ChangeAt Go.RowKit
set_option linter.unusedVariables false

theorem ofInt_u32 (a : Nat) (h : a < 4294967296) : (BitVec.ofInt 32 (a : Int)).toNat = a := by
  simp only [BitVec.ofInt_natCast, BitVec.toNat_ofNat]; omega
theorem u32_xor_nat (a b : Nat) (ha : a < 4294967296) (hb : b < 4294967296) : bits .xor .u32 (a : Int) (b : Int) = ((a ^^^ b : Nat) : Int) := by
  have hx : a ^^^ b < 2 ^ 32 := Nat.xor_lt_two_pow (by omega) (by omega)
  show IntKind.u32.wrap ((BitVec.ofInt 32 (a : Int) ^^^ BitVec.ofInt 32 (b : Int)).toNat : Int) = _
  rw [BitVec.toNat_xor, ofInt_u32 a ha, ofInt_u32 b hb, IntKind.wrap_u32]
  omega
theorem u32_or_nat (a b : Nat) (ha : a < 4294967296) (hb : b < 4294967296) : bits .or .u32 (a : Int) (b : Int) = ((a ||| b : Nat) : Int) := by
  have hx : a ||| b < 2 ^ 32 := Nat.or_lt_two_pow (by omega) (by omega)
  show IntKind.u32.wrap ((BitVec.ofInt 32 (a : Int) ||| BitVec.ofInt 32 (b : Int)).toNat : Int) = _
  rw [BitVec.toNat_or, ofInt_u32 a ha, ofInt_u32 b hb, IntKind.wrap_u32]
  omega
theorem u32_and_nat (a b : Nat) (ha : a < 4294967296) (hb : b < 4294967296) : bits .and .u32 (a : Int) (b : Int) = ((a &&& b : Nat) : Int) := by
  have hx : a &&& b < 2 ^ 32 := Nat.and_lt_two_pow _ (by omega)
  show IntKind.u32.wrap ((BitVec.ofInt 32 (a : Int) &&& BitVec.ofInt 32 (b : Int)).toNat : Int) = _
  rw [BitVec.toNat_and, ofInt_u32 a ha, ofInt_u32 b hb, IntKind.wrap_u32]
  omega
theorem u32_not_nat (a : Nat) (ha : a < 4294967296) : bits .xor .u32 IntKind.u32.max (a : Int) = ((4294967295 ^^^ a : Nat) : Int) := by
  have e : IntKind.u32.max = ((4294967295 : Nat) : Int) := by decide
  rw [e, u32_xor_nat _ _ (by omega) ha]
theorem xor_lt32 {a b : Nat} (ha : a < 4294967296) (hb : b < 4294967296) : a ^^^ b < 4294967296 := Nat.xor_lt_two_pow (n := 32) ha hb
theorem and_lt32 {a b : Nat} (hb : b < 4294967296) : a &&& b < 4294967296 := Nat.and_lt_two_pow (n := 32) _ hb
theorem below_drewN {B : Nat} {a w : World} (h : Below B a w) (n : Nat) : Below B a (w.drewN n) := ⟨h.os, h.tape, h.output, h.size, h.block⟩

theorem rot_count : ∀ n : Fin 32, 1 ≤ n.val → bits BinOp.and IntKind.u64 (IntKind.u64.wrap (-(n.val : Int))) 31 = ((32 - n.val : Nat) : Int) := by decide +kernel
theorem rot_or (x n s : Nat) (hx : x < 4294967296) (h3 : s + n = 32) : bits BinOp.or IntKind.u32 ((x : Int) * 2 ^ s % 4294967296) ((x : Int) / 2 ^ (32 - s)) = ((rotR x n : Nat) : Int) := by
  obtain rfl : n = 32 - s := by omega
  have e1 : ((x : Int) * 2 ^ s % 4294967296) = ((x * 2 ^ s % 4294967296 : Nat) : Int) := by
    rw [Int.natCast_emod, Int.natCast_mul, Int.natCast_pow]; rfl
  have e2 : ((x : Int) / 2 ^ (32 - s)) = ((x / 2 ^ (32 - s) : Nat) : Int) := by rw [Int.natCast_ediv, Int.natCast_pow]; rfl
  have h4 : x / 2 ^ (32 - s) ≤ x := Nat.div_le_self _ _
  rw [e1, e2, u32_or_nat _ _ (by omega) (by omega), rotR, Nat.shiftRight_eq_div_pow, Nat.shiftLeft_eq, Nat.or_comm, show 32 - (32 - s) = s by omega]
theorem rotl_any (x n : Nat) (w : World) (hx : x < 4294967296) (h1 : 1 ≤ n) (h2 : n ≤ 31) :
    Calls Tryd.prog 47 #[.int .u32 x, .int .i64 (-(n : Int))] w fun e w' => e = .returned (.int .u32 (rotR x n : Nat)) ∧ w = w' := by
  obtain ⟨s, h3⟩ : ∃ s, s + n = 32 := ⟨32 - n, by omega⟩
  have hs : bits BinOp.and IntKind.u64 (IntKind.u64.wrap (-(n:Int))) 31 = (s : Int) := by
    have := rot_count ⟨n, by omega⟩ h1
    rw [show 32 - n = s by omega] at this
    exact this
  have hr := rot_or x n s hx h3
  go_enter Tryd.func47, Tryd.ntmps47
  go_wp2_with fail
  go_ret
  exact ⟨by rw [← hr]; rfl, rfl⟩
theorem rot_any (x n : Nat) (w : World) (hx : x < 4294967296) (h1 : 1 ≤ n) (h2 : n ≤ 31) :
    Calls Tryd.prog 46 #[.int .u32 x, .int .i64 n] w fun e w' => e = .returned (.int .u32 (rotR x n : Nat)) ∧ w = w' := by
  go_enter Tryd.func46, Tryd.ntmps46
  go_wp2_with fail
  refine (rotl_any x n w hx h1 h2).mono ?_
  rintro e w' ⟨rfl, rfl⟩
  go_wp2_with fail
  go_ret
  exact ⟨rfl, rfl⟩
theorem sp0_any (x : Nat) (w : World) (hx : x < 4294967296) :
    Calls Tryd.prog 45 #[.int .u32 x] w fun e w' => e = .returned (.int .u32 (sp0 x : Nat)) ∧ w = w' := by
  have e3 : (x : Int) / (8 : Int) = ((x >>> 3 : Nat) : Int) := by rw [Nat.shiftRight_eq_div_pow]; omega
  have h3 : x >>> 3 < 4294967296 := by rw [Nat.shiftRight_eq_div_pow]; omega
  have ha := rotR_lt x 7 hx
  have hb := rotR_lt x 18 hx
  have hr : bits BinOp.xor IntKind.u32 (bits BinOp.xor IntKind.u32 ((rotR x 7 : Nat) : Int) ((rotR x 18 : Nat) : Int)) ((x : Int) / 8) = ((sp0 x : Nat) : Int) := by
    rw [e3, u32_xor_nat _ _ ha hb, u32_xor_nat _ _ (xor_lt32 ha hb) h3]; rfl
  clear e3 h3
  replace hr := hideIt hr
  go_enter Tryd.func45, Tryd.ntmps45
  go_wp2_with fail
  refine (rot_any x 7 w hx (by omega) (by omega)).mono ?_
  rintro e w' ⟨rfl, rfl⟩
  go_wp2_with fail
  refine (rot_any x 18 w hx (by omega) (by omega)).mono ?_
  rintro e w' ⟨rfl, rfl⟩
  go_wp2_with fail
  go_ret
  exact ⟨by rw [← hr.out]; rfl, rfl⟩
theorem sp1_any (x : Nat) (w : World) (hx : x < 4294967296) :
    Calls Tryd.prog 44 #[.int .u32 x] w fun e w' => e = .returned (.int .u32 (sp1 x : Nat)) ∧ w = w' := by
  have e3 : (x : Int) / (1024 : Int) = ((x >>> 10 : Nat) : Int) := by rw [Nat.shiftRight_eq_div_pow]; omega
  have h3 : x >>> 10 < 4294967296 := by rw [Nat.shiftRight_eq_div_pow]; omega
  have ha := rotR_lt x 17 hx
  have hb := rotR_lt x 19 hx
  have hr : bits BinOp.xor IntKind.u32 (bits BinOp.xor IntKind.u32 ((rotR x 17 : Nat) : Int) ((rotR x 19 : Nat) : Int)) ((x : Int) / 1024) = ((sp1 x : Nat) : Int) := by
    rw [e3, u32_xor_nat _ _ ha hb, u32_xor_nat _ _ (xor_lt32 ha hb) h3]; rfl
  clear e3 h3
  replace hr := hideIt hr
  go_enter Tryd.func44, Tryd.ntmps44
  go_wp2_with fail
  refine (rot_any x 17 w hx (by omega) (by omega)).mono ?_
  rintro e w' ⟨rfl, rfl⟩
  go_wp2_with fail
  refine (rot_any x 19 w hx (by omega) (by omega)).mono ?_
  rintro e w' ⟨rfl, rfl⟩
  go_wp2_with fail
  go_ret
  exact ⟨by rw [← hr.out]; rfl, rfl⟩

/-- words as an array -/
def wordsV (l : List Nat) : Value := .agg (l.map fun x : Nat => Value.int .u32 (x : Int)).toArray

theorem turn_one (e f g h k : Nat) (he : e < 4294967296) (hf : f < 4294967296) (hg : g < 4294967296) (hh : h < 4294967296) :
    ((h : Int) + bits BinOp.xor IntKind.u32 (bits BinOp.xor IntKind.u32 ((rotR e 6 : Nat) : Int) ((rotR e 11 : Nat) : Int)) ((rotR e 25 : Nat) : Int) +
      bits BinOp.xor IntKind.u32 (bits BinOp.and IntKind.u32 (e : Int) (f : Int)) (bits BinOp.and IntKind.u32 (bits BinOp.xor IntKind.u32 IntKind.u32.max (e : Int)) (g : Int)) + (k : Int)) % 4294967296 = ((tOne e f g h k : Nat) : Int) := by
  have h1 := rotR_lt e 6 he
  have h2 := rotR_lt e 11 he
  have h3 := rotR_lt e 25 he
  rw [u32_not_nat e he, u32_and_nat e f he hf, u32_and_nat _ g (xor_lt32 (by omega) he) hg, u32_xor_nat _ _ (and_lt32 hf) (and_lt32 hg), u32_xor_nat _ _ h1 h2, u32_xor_nat _ _ (xor_lt32 h1 h2) h3, tOne]
  omega
theorem turn_two (a b c : Nat) (ha : a < 4294967296) (hb : b < 4294967296) (hc : c < 4294967296) :
    (bits BinOp.xor IntKind.u32 (bits BinOp.xor IntKind.u32 ((rotR a 2 : Nat) : Int) ((rotR a 13 : Nat) : Int)) ((rotR a 22 : Nat) : Int) +
      bits BinOp.xor IntKind.u32 (bits BinOp.xor IntKind.u32 (bits BinOp.and IntKind.u32 (a : Int) (b : Int)) (bits BinOp.and IntKind.u32 (a : Int) (c : Int))) (bits BinOp.and IntKind.u32 (b : Int) (c : Int))) % 4294967296 = ((tTwo a b c : Nat) : Int) := by
  have h1 := rotR_lt a 2 ha
  have h2 := rotR_lt a 13 ha
  have h3 := rotR_lt a 22 ha
  rw [u32_and_nat a b ha hb, u32_and_nat a c ha hc, u32_and_nat b c hb hc, u32_xor_nat _ _ (and_lt32 hb) (and_lt32 hc), u32_xor_nat _ _ (xor_lt32 (and_lt32 hb) (and_lt32 hc)) (and_lt32 hc), u32_xor_nat _ _ h1 h2, u32_xor_nat _ _ (xor_lt32 h1 h2) h3, tTwo]
  omega

set_option maxHeartbeats 1000000 in
theorem turn_any (v : List Nat) (k : Nat) (w : World) (hv : Words8 v) (hk : k < 4294967296) :
    Calls Tryd.prog 42 #[wordsV v, .int .u32 k] w fun e w' => e = .returned (wordsV (turnL v k)) ∧ Below w.heap.size w w' := by
  obtain ⟨a, b, c, d, e, f, g, z, rfl, ha, hb, hc, hd, he, hf, hg, hz⟩ := hv.open
  have H1 := turn_one e f g z k he hf hg hz
  have H2 := turn_two a b c ha hb hc
  have H3 : Hid ((((tOne e f g z k : Nat) : Int) + ((tTwo a b c : Nat) : Int)) % 4294967296 = (((tOne e f g z k + tTwo a b c) % 4294967296 : Nat) : Int)) := hideIt (by omega)
  have H4 : Hid (((d : Int) + ((tOne e f g z k : Nat) : Int)) % 4294967296 = (((d + tOne e f g z k) % 4294967296 : Nat) : Int)) := hideIt (by omega)
  show Calls Tryd.prog 42 #[.agg #[.int .u32 a, .int .u32 b, .int .u32 c, .int .u32 d, .int .u32 e, .int .u32 f, .int .u32 g, .int .u32 z], .int .u32 k] w _
  go_enter Tryd.func42, Tryd.ntmps42
  go_wp2_with fail
  go_quiet (fail)
  go_wp2_with fail
  refine (rot_any e 6 _ he (by omega) (by omega)).mono ?_
  rintro e' w' ⟨rfl, rfl⟩
  go_wp2_with fail
  refine (rot_any e 11 _ he (by omega) (by omega)).mono ?_
  rintro e' w' ⟨rfl, rfl⟩
  go_wp2_with fail
  refine (rot_any e 25 _ he (by omega) (by omega)).mono ?_
  rintro e' w' ⟨rfl, rfl⟩
  go_wp2_with fail
  refine (rot_any a 2 _ ha (by omega) (by omega)).mono ?_
  rintro e' w' ⟨rfl, rfl⟩
  go_wp2_with fail
  refine (rot_any a 13 _ ha (by omega) (by omega)).mono ?_
  rintro e' w' ⟨rfl, rfl⟩
  go_wp2_with fail
  refine (rot_any a 22 _ ha (by omega) (by omega)).mono ?_
  rintro e' w' ⟨rfl, rfl⟩
  go_wp2_with fail
  refine bodyPost_ret (v := wordsV (turnL [a, b, c, d, e, f, g, z] k)) ?_ rfl ⟨rfl, ?_⟩
  · simp [results, Tryd.results42, go_sem]
    rw [H3.out, H4.out]
    rfl
  · refine Below.setCell (Below.setCell (Below.setCell (Below.setCell (Below.setCell (Below.setCell (Below.setCell (Below.setCell ?_ ?_ _) ?_ _) ?_ _) ?_ _) ?_ _) ?_ _) ?_ _) ?_ _
    · exact below_drewN (below_one (below_one (Below.refl _ _) _) _) _
    all_goals exact Nat.le_succ _
end Go.Proofs.YtflbdjlmkmmahaaDoor
