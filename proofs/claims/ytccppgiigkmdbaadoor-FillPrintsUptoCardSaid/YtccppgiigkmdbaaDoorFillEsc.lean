/- Contract of fill.Escape. -/
import Derived.Test.YtccppgiigkmdbaaDoorFillUnesc
import Derived.Test.YtccppgiigkmdbaaDoorFillSigns
namespace Go.Proofs.YtccppgiigkmdbaaDoor
open Go.ChangeShapes Go.WideShapes Go.ChangeAt Go.RowKit
set_option linter.unusedVariables false
set_option linter.unusedSimpArgs false

def upDigits : List UInt8 := [48, 49, 50, 51, 52, 53, 54, 55, 56, 57, 65, 66, 67, 68, 69, 70]
theorem upDigits_at (n : Nat) (h : n < 16) : ∃ hh : n < upDigits.length, upDigits[n] = upD n := by
  have : ∀ k : Fin 16, ∃ hh : k.val < upDigits.length, upDigits[k.val] = upD k.val := by decide
  exact this ⟨n, h⟩
theorem upIdx (n : Nat) (h : n < (ByteArray.mk #[48, 49, 50, 51, 52, 53, 54, 55, 56, 57, 65, 66, 67, 68, 69, 70]).size) : (ByteArray.mk #[48, 49, 50, 51, 52, 53, 54, 55, 56, 57, 65, 66, 67, 68, 69, 70])[n]'h = upD n := by
  obtain ⟨hh, e⟩ := upDigits_at n h
  exact e
theorem and15 (x : Nat) (hx : x < 256) : bits .and .u8 (x : Int) 15 = ((x % 16 : Nat) : Int) := by
  have : ∀ a : Fin 256, bits .and .u8 (a.val : Int) 15 = ((a.val % 16 : Nat) : Int) := by decide +kernel
  exact this ⟨x, hx⟩
/-- how Escape stands -/
def EInv (w : World) (l : List UInt8) (k : Nat) (acc : List UInt8) (c m : Value) (wr : World) : Prop :=
  k ≤ l.length ∧ c = .int .u8 ((l.getD k 0).toNat : Int) ∧ m = .bool (decide (k < l.length)) ∧ RB w l (min (k + 1) l.length) acc wr ∧ escapeL l = acc ++ escapeL (l.drop k) ∧ acc.length ≤ 3 * k
theorem esc_step {l acc : List UInt8} {k : Nat} {c : UInt8} (hk : k < l.length) (hc : l.getD k 0 = c) (h : escapeL l = acc ++ escapeL (l.drop k)) : escapeL l = (acc ++ escF c) ++ escapeL (l.drop (k + 1)) := by
  rw [h, drop_at hk, hc, escapeL_cons, List.append_assoc]
theorem eless_of {l : List UInt8} {w : World} {k j : Nat} {acc acc' : List UInt8} {c m c' m' : Value} {wr w2 : World} (h : EInv w l k acc c m wr) (hk : k < l.length) (h' : EInv w l j acc' c' m' w2) (hj : k < j) :
    2 * (l.length - rdPos w2 w.heap.size) + boolN m' < 2 * (l.length - rdPos wr w.heap.size) + boolN m := by
  obtain ⟨_, _, rfl, rb, _, _⟩ := h
  obtain ⟨hjl, _, rfl, rb', _, _⟩ := h'
  rw [rb.rd.pos, rb'.rd.pos, decide_eq_true hk]
  by_cases hlt : j < l.length
  · rw [decide_eq_true hlt]; simp only [boolN]; omega
  · rw [decide_eq_false hlt]; simp only [boolN]; omega
set_option maxRecDepth 8000 in
set_option maxHeartbeats 2000000 in
theorem fescape_any (l : List UInt8) (w : World) (hl : l.length ≤ 1000000) :
    Calls Tryd.prog 20 #[.string (strOf l)] w fun e w' => e = .returned (.string (strOf (escapeL l))) ∧ Below w.heap.size w w' := by
  have S0 := hideIt (RB.start w l)
  go_enter Tryd.func20, Tryd.ntmps20
  go_wp2_with fail
  generalize (w.alloc (.cells #[.string (strOf l), .int .i64 0] 56)).alloc (.cells #[.pointer none, .slice none 0 0] 59) = w0 at *
  refine (next_all w.heap.size l 0 w0 S0.out.rd (Nat.zero_le _) (by omega)).mono ?_
  rintro e w1 ⟨rfl, hr, hg⟩
  have I0 : Hid (EInv w l 0 [] (.int .u8 ((l.getD 0 0).toNat : Int)) (.bool (decide (0 < l.length))) w1) := hideIt ⟨Nat.zero_le _, rfl, rfl, S0.out.moved hr hg, by simp, by simp⟩
  clear hr hg S0
  generalize ((l.getD 0 0).toNat : Int) = x0 at *
  generalize decide (0 < l.length) = b0 at *
  go_wp2_with fail
  go_loopw [5, 6] (fun c m wr => ∃ (k : Nat) (acc : List UInt8), EInv w l k acc c m wr) (fun c m wr => 2 * (l.length - rdPos wr w.heap.size) + boolN m)
  case atStart => exact ⟨0, [], I0.out⟩
  case round =>
    obtain ⟨k, acc, hI⟩ := hrel
    have HI := hideIt hI
    obtain ⟨hk, rfl, rfl, rb, hu, hal⟩ := hI
    have HU := hideIt hu
    have HB := hideIt rb
    clear hu rb I0
    have hw2 := HB.out.size
    by_cases hkl : k < l.length
    · rw [show min (k + 1) l.length = k + 1 by omega] at HB
      have hd : decide (k < l.length) = true := decide_eq_true hkl
      rw [hd] at HI ⊢
      obtain ⟨c, hc⟩ : ∃ c, l.getD k 0 = c := ⟨_, rfl⟩
      rw [hc] at HI ⊢
      clear hd
      have HX := hideIt (esc_step hkl hc HU.out)
      have HS := hideIt (stays_any c wr)
      cases hkf : keepF c
      · rw [hkf] at HS
        by_cases h32 : c = 32
        · subst h32
          rw [show (((32 : UInt8).toNat : Nat) : Int) = 32 from rfl] at HI HS ⊢
          rw [show escF 32 = [43] by decide] at HX
          have HW := hideIt (bbyte_any (w.heap.size + 1) (w.heap.size + 1) acc 43 wr HB.out.bld (by omega) hw2)
          rw [show (((43 : UInt8).toNat : Nat) : Int) = 43 from rfl] at HW
          go_wp2_with fail
          refine HS.out.mono ?_
          rintro e w2 ⟨rfl, rfl⟩
          go_wp2_with fail
          refine HW.out.mono ?_
          rintro e w2 ⟨rfl, hb2, hl2, _⟩
          have B2 := hideIt (HB.out.wrote hb2 hl2)
          clear hb2 hl2 HW HB
          go_wp2_with fail
          refine (next_all w.heap.size l (k + 1) w2 B2.out.rd (by omega) (by omega)).mono ?_
          rintro e w9 ⟨rfl, hr, hg⟩
          have I3 : Hid (EInv w l (k + 1) _ (.int .u8 ((l.getD (k + 1) 0).toNat : Int)) (.bool (decide (k + 1 < l.length))) w9) := hideIt ⟨by omega, rfl, rfl, B2.out.moved hr hg, HX.out, by simp; omega⟩
          have M3 := hideIt (eless_of HI.out hkl I3.out (by omega))
          clear hr hg B2
          generalize ((l.getD (k + 1) 0).toNat : Int) = x9 at *
          generalize decide (k + 1 < l.length) = b9 at *
          go_wp2_with fail
          go_roundw
          case rel => exact ⟨_, _, I3.out⟩
          case measure => exact M3.out
        · have q32 : ((c.toNat : Int) == 32) = false := by
            rw [beq_eq_false_iff_ne]; intro h; exact h32 (UInt8.toNat_inj.1 (by have := Int.ofNat.inj h; exact this))
          have e3 : escF c = [37, upD (c.toNat / 16), upD (c.toNat % 16)] := by unfold escF; rw [hkf, if_neg (by decide), if_neg h32]
          rw [e3] at HX
          have hx := c.toNat_lt
          have hA := and15 c.toNat hx
          have HW := hideIt (bbyte_any (w.heap.size + 1) (w.heap.size + 1) acc 37 wr HB.out.bld (by omega) hw2)
          rw [show (((37 : UInt8).toNat : Nat) : Int) = 37 from rfl] at HW
          go_wp2_with fail
          refine HS.out.mono ?_
          rintro e w2 ⟨rfl, rfl⟩
          go_wp2_with fail
          refine HW.out.mono ?_
          rintro e w2 ⟨rfl, hb2, hl2, _⟩
          have B1 := hideIt (HB.out.wrote hb2 hl2)
          clear hb2 hl2 HW HB
          have HW := hideIt (bbyte_any (w.heap.size + 1) (w.heap.size + 1) _ (upD (c.toNat / 16)) w2 B1.out.bld (by simp; omega) B1.out.size)
          go_wp2_with fail
          rw [upIdx]
          refine HW.out.mono ?_
          rintro e w3 ⟨rfl, hb2, hl2, _⟩
          have B0 := hideIt (B1.out.wrote hb2 hl2)
          clear hb2 hl2 HW B1
          have HW := hideIt (bbyte_any (w.heap.size + 1) (w.heap.size + 1) _ (upD (c.toNat % 16)) w3 B0.out.bld (by simp; omega) B0.out.size)
          go_wp2_with fail
          rw [upIdx]
          refine HW.out.mono ?_
          rintro e w2 ⟨rfl, hb2, hl2, _⟩
          have B2 := hideIt (B0.out.wrote hb2 hl2)
          rw [show acc ++ [37] ++ [upD (c.toNat / 16)] ++ [upD (c.toNat % 16)] = acc ++ [37, upD (c.toNat / 16), upD (c.toNat % 16)] by simp] at B2
          clear hb2 hl2 HW B0
          go_wp2_with fail
          refine (next_all w.heap.size l (k + 1) w2 B2.out.rd (by omega) (by omega)).mono ?_
          rintro e w9 ⟨rfl, hr, hg⟩
          have I3 : Hid (EInv w l (k + 1) _ (.int .u8 ((l.getD (k + 1) 0).toNat : Int)) (.bool (decide (k + 1 < l.length))) w9) := hideIt ⟨by omega, rfl, rfl, B2.out.moved hr hg, HX.out, by simp; omega⟩
          have M3 := hideIt (eless_of HI.out hkl I3.out (by omega))
          clear hr hg B2
          generalize ((l.getD (k + 1) 0).toNat : Int) = x9 at *
          generalize decide (k + 1 < l.length) = b9 at *
          go_wp2_with fail
          go_roundw
          case rel => exact ⟨_, _, I3.out⟩
          case measure => exact M3.out
      · rw [hkf] at HS
        have e3 : escF c = [c] := by unfold escF; rw [hkf, if_pos rfl]
        rw [e3] at HX
        have HW := hideIt (bbyte_any (w.heap.size + 1) (w.heap.size + 1) acc c wr HB.out.bld (by omega) hw2)
        go_wp2_with fail
        refine HS.out.mono ?_
        rintro e w2 ⟨rfl, rfl⟩
        go_wp2_with fail
        refine HW.out.mono ?_
        rintro e w2 ⟨rfl, hb2, hl2, _⟩
        have B2 := hideIt (HB.out.wrote hb2 hl2)
        clear hb2 hl2 HW HB
        go_wp2_with fail
        refine (next_all w.heap.size l (k + 1) w2 B2.out.rd (by omega) (by omega)).mono ?_
        rintro e w9 ⟨rfl, hr, hg⟩
        have I3 : Hid (EInv w l (k + 1) _ (.int .u8 ((l.getD (k + 1) 0).toNat : Int)) (.bool (decide (k + 1 < l.length))) w9) := hideIt ⟨by omega, rfl, rfl, B2.out.moved hr hg, HX.out, by simp; omega⟩
        have M3 := hideIt (eless_of HI.out hkl I3.out (by omega))
        clear hr hg B2
        generalize ((l.getD (k + 1) 0).toNat : Int) = x9 at *
        generalize decide (k + 1 < l.length) = b9 at *
        go_wp2_with fail
        go_roundw
        case rel => exact ⟨_, _, I3.out⟩
        case measure => exact M3.out
    · have hd : decide (k < l.length) = false := decide_eq_false hkl
      rw [hd] at HI ⊢
      have hacc : escapeL l = acc := by have := HU.out; rw [List.drop_of_length_le (by omega)] at this; simpa [escapeL] using this
      have HN := hideIt hacc
      have HS := hideIt (bstring_any (w.heap.size + 1) (w.heap.size + 1) acc wr HB.out.bld hw2)
      have F := hideIt HB.out.below
      clear hd HI HU HB hacc
      generalize ((l.getD k 0).toNat : Int) = x at *
      go_wp2_with fail
      refine HS.out.mono ?_
      rintro e w2 ⟨rfl, hl2⟩
      have F2 := hideIt (F.out.trans (hl2.mono (by omega)))
      clear hl2
      go_wp2_with fail
      go_ret
      exact ⟨by rw [HN.out]; rfl, F2.out⟩
theorem go_fescape : goFn Tryd.prog 20 = true := by kernel_rfl
end Go.Proofs.YtccppgiigkmdbaaDoor
