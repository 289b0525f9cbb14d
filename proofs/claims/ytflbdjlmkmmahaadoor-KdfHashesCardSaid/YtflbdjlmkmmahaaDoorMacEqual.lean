/- The contracts of mac.Steps and mac.Equal. -/
import Derived.Test.YtflbdjlmkmmahaaDoorBase
import Derived.BigQuiet
namespace Go.Proofs.YtflbdjlmkmmahaaDoor
open Go.ChangeShapes Go.WideShapes Go.ChangeAt Go.RowKit
set_option linter.unusedVariables false

theorem ofInt_u8 (a : Nat) (h : a < 256) : (BitVec.ofInt 8 (a : Int)).toNat = a := by
  simp only [BitVec.ofInt_natCast, BitVec.toNat_ofNat]; omega
theorem u8_xor_nat (a b : Nat) (ha : a < 256) (hb : b < 256) : bits .xor .u8 (a : Int) (b : Int) = ((a ^^^ b : Nat) : Int) := by
  have hx : a ^^^ b < 2 ^ 8 := Nat.xor_lt_two_pow (by omega) (by omega)
  show IntKind.u8.wrap ((BitVec.ofInt 8 (a : Int) ^^^ BitVec.ofInt 8 (b : Int)).toNat : Int) = _
  rw [BitVec.toNat_xor, ofInt_u8 a ha, ofInt_u8 b hb, IntKind.wrap_u8]
  omega
theorem u8_or_nat (a b : Nat) (ha : a < 256) (hb : b < 256) : bits .or .u8 (a : Int) (b : Int) = ((a ||| b : Nat) : Int) := by
  have hx : a ||| b < 2 ^ 8 := Nat.or_lt_two_pow (by omega) (by omega)
  show IntKind.u8.wrap ((BitVec.ofInt 8 (a : Int) ||| BitVec.ofInt 8 (b : Int)).toNat : Int) = _
  rw [BitVec.toNat_or, ofInt_u8 a ha, ofInt_u8 b hb, IntKind.wrap_u8]
  omega

theorem xor_zero {a b : Nat} : a ^^^ b = 0 ↔ a = b := by
  constructor
  · intro h
    have : (a ^^^ b) ^^^ b = a := by rw [Nat.xor_assoc, Nat.xor_self, Nat.xor_zero]
    rw [h, Nat.zero_xor] at this
    exact this.symm
  · rintro rfl; exact Nat.xor_self a
theorem steps_any (A A' : Option Addr) (n c n' c' : Nat) (w : World) (hn : n ≤ 9223372036854775807) (hn' : n' ≤ 9223372036854775807) :
    Calls Tryd.prog 26 #[.slice A n c, .slice A' n' c'] w fun e w' => e = .returned (.int .i64 ((if n = n' then n else 0 : Nat) : Int)) ∧ w = w' := by
  by_cases h : n = n'
  · subst h
    rw [if_pos rfl]
    go_enter Tryd.func26, Tryd.ntmps26
    go_wp2
    go_ret
    exact ⟨rfl, rfl⟩
  · have h' : ¬ (n : Int) = (n' : Int) := by omega
    rw [if_neg h]
    go_enter Tryd.func26, Tryd.ntmps26
    go_wp2
    go_ret
    exact ⟨rfl, rfl⟩

theorem take_eq_next {x y : List UInt8} {k : Nat} (hx : k < x.length) (hy : k < y.length) : x.take (k + 1) = y.take (k + 1) ↔ x.take k = y.take k ∧ x[k] = y[k] := by
  rw [List.take_succ_eq_append_getElem hx, List.take_succ_eq_append_getElem hy]
  constructor
  · intro h
    have := List.append_inj h (by simp; omega)
    exact ⟨this.1, by simpa using this.2⟩
  · rintro ⟨h1, h2⟩
    rw [h1, h2]
set_option maxHeartbeats 400000 in
theorem equal_any (A A' : Option Addr) (x y : List UInt8) (n c n' c' : Nat) (w : World) (hx : BytesAt w w.heap.size A x) (hy : BytesAt w w.heap.size A' y) (hn : x.length = n) (hn' : y.length = n') (hm : n ≤ 9223372036854775807) (hm' : n' ≤ 9223372036854775807) :
    Calls Tryd.prog 18 #[.slice A n c, .slice A' n' c'] w fun e w' => e = .returned (.bool (decide (x = y))) ∧ Below w.heap.size w w' := by
  by_cases h : n = n'
  · subst h
    have hs := steps_any A A' n c n c' w hm hm
    rw [if_pos rfl] at hs
    by_cases h0 : 0 < n
    · obtain ⟨b, off, rfl, _, hb⟩ := hx (by omega)
      obtain ⟨b', off', rfl, _, hb'⟩ := hy (by omega)
      have HB : Hid (∀ j (h : j < x.length), w.cell? ⟨b, off + j, none⟩ = some (.int .u8 ((x[j]).toNat : Int))) := hideIt hb
      have HB' : Hid (∀ j (h : j < y.length), w.cell? ⟨b', off' + j, none⟩ = some (.int .u8 ((y[j]).toNat : Int))) := hideIt hb'
      have HN := hideIt hn
      have HN' := hideIt hn'
      clear hb hb' hx hy hn hn'
      go_enter Tryd.func18, Tryd.ntmps18
      go_wp2_with fail
      refine hs.mono ?_
      rintro e w' ⟨rfl, rfl⟩
      clear hs
      go_wp2_with fail
      go_loopw [5, 15] (fun d i wr => ∃ k m : Nat, k ≤ n ∧ m < 256 ∧ i = .int .i64 k ∧ d = .int .u8 m ∧ (m = 0 ↔ x.take k = y.take k) ∧ Below w.heap.size w wr ∧ wr.heap = w.heap) (fun _ i _ => n - (intOf i).toNat)
      case atStart => exact ⟨0, 0, Nat.zero_le _, by omega, rfl, rfl, by simp, Below.refl _ _, rfl⟩
      case round =>
        obtain ⟨k, m, hk, hm1, rfl, rfl, hd, hbel, hheap⟩ := hrel
        by_cases hlt : k < n
        · have hkx : k < x.length := by have := HN.out; omega
          have hky : k < y.length := by have := HN'.out; omega
          have c1 : wr.cell? ⟨b, off + k, none⟩ = some (.int .u8 ((x[k]).toNat : Int)) := by rw [← HB.out k hkx]; simp only [World.cell?, hheap]
          have c2 : wr.cell? ⟨b', off' + k, none⟩ = some (.int .u8 ((y[k]).toNat : Int)) := by rw [← HB'.out k hky]; simp only [World.cell?, hheap]
          have u1 := (x[k]).toNat_lt
          have u2 := (y[k]).toNat_lt
          have hxx : (x[k]).toNat ^^^ (y[k]).toNat < 2 ^ 8 := Nat.xor_lt_two_pow (by omega) (by omega)
          have hoo : m ||| ((x[k]).toNat ^^^ (y[k]).toNat) < 2 ^ 8 := Nat.or_lt_two_pow (by omega) (by omega)
          have HD : Hid (m ||| ((x[k]).toNat ^^^ (y[k]).toNat) = 0 ↔ x.take (k + 1) = y.take (k + 1)) := hideIt (by
            rw [take_eq_next hkx hky, Nat.or_eq_zero_iff, xor_zero, hd, UInt8.toNat_inj])
          have HV : Hid (bits .or .u8 (m : Int) (bits .xor .u8 ((x[k]).toNat : Int) ((y[k]).toNat : Int)) = ((m ||| ((x[k]).toNat ^^^ (y[k]).toNat) : Nat) : Int)) := hideIt (by
            rw [u8_xor_nat _ _ (by omega) (by omega), u8_or_nat _ _ (by omega) (by omega)])
          generalize (x[k]).toNat = p at *
          generalize (y[k]).toNat = q at *
          clear hd
          have HBel := hideIt hbel
          have HH := hideIt hheap
          clear hbel hheap
          go_wp2_with fail
          go_quiet (fail)
          go_wp2_with fail
          go_roundw
          case rel => exact ⟨k + 1, m ||| (p ^^^ q), by omega, by omega, by go_num, by rw [← HV.out], HD.out, ⟨HBel.out.os, HBel.out.tape, HBel.out.output, HBel.out.size, HBel.out.block⟩, HH.out⟩
          case measure => simp [intOf]; omega
        · obtain rfl : k = n := by omega
          rw [List.take_of_length_le (by have := HN.out; omega), List.take_of_length_le (by have := HN'.out; omega)] at hd
          have HBel := hideIt hbel
          have HD := hideIt hd
          clear hbel hheap hd
          go_wp2_with fail
          go_ret
          refine ⟨?_, HBel.out⟩
          have := HD.out
          by_cases hxy : x = y
          · obtain rfl := this.2 hxy
            simp [hxy]
          · have : ¬ m = 0 := fun h => hxy (this.1 h)
            simp [hxy]; omega
    · obtain rfl : n = 0 := by omega
      obtain rfl := List.eq_nil_of_length_eq_zero hn
      obtain rfl := List.eq_nil_of_length_eq_zero hn'
      go_enter Tryd.func18, Tryd.ntmps18
      go_wp2_with fail
      refine hs.mono ?_
      rintro e w' ⟨rfl, rfl⟩
      clear hs
      go_wp2_with fail
      refine wp_loop_rounds 1 ?_
      rw [rounds_succ]
      go_wp2
      go_ret
      exact ⟨rfl, Below.refl _ _⟩
  · have h' : ¬ (n : Int) = (n' : Int) := by omega
    have hne : ¬ x = y := fun e => h (by rw [← hn, ← hn', e])
    go_enter Tryd.func18, Tryd.ntmps18
    go_wp2
    go_ret
    exact ⟨by simp [hne], Below.refl _ _⟩
end Go.Proofs.YtflbdjlmkmmahaaDoor
