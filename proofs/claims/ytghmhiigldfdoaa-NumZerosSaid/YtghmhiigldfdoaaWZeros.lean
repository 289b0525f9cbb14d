/- The walk of the statement NumZeros: it answers true for all numbers. -/
import Derived.Test.YtghmhiigldfdoaaWAdds
import Derived.Deep.RegionWith
namespace Go.Proofs.Ytghmhiigldfdoaa
open Go.ChangeShapes Go.WideShapes Go.ChangeAt Go.RowKit
set_option linter.unusedVariables false

theorem conv_one_drew (W : World) (x : Int) : (convert 32 9 (.slice (some ⟨W.heap.size, 0, none⟩) 1 1)).run Try.prog (W.alloc (.cells #[.int .u8 x] 5)).drew = .ok (.string (oneB x)) (W.alloc (.cells #[.int .u8 x] 5)).drew :=
  run_convert_bytes_arg _ 32 5 Try.underlying32 Try.underlying5 W.heap.size 0 1 1 [x] rfl (fun i hi => by
    obtain rfl : i = 0 := by omega
    simp) 9 Try.underlying9
/-- noughts ahead of a number's digits -/
def zeroL (k n : Nat) : List UInt8 := List.replicate k 48 ++ digL n
/-- a text of a nought -/
theorem zero_cat (s : ByteArray) {k n : Nat} (h : s.data.toList = zeroL k n) : ((⟨#[48]⟩ : ByteArray) ++ s).data.toList = zeroL (k + 1) n := by
  simp [ByteArray.data_append, h, zeroL, List.replicate_succ]
theorem foldl_zeros (k m : Nat) (hm : m = 0) : (List.replicate k (48 : UInt8)).foldl (fun n b => 10 * n + (b.toNat - 48)) m = 0 := by
  induction k generalizing m with
  | zero => exact hm
  | succ k ih =>
    rw [List.replicate_succ, List.foldl_cons]
    exact ih _ (by subst hm; rfl)
theorem zeroL_facts (k n : Nat) : (zeroL k n).all isDig = true ∧ decN (zeroL k n) = n ∧ (zeroL k n).length = k + (digL n).length := by
  obtain ⟨h1, h2, h3⟩ := digL_facts n
  refine ⟨?_, ?_, by simp [zeroL]⟩
  · rw [zeroL, List.all_append, h1, Bool.and_true, List.all_eq_true]
    intro x hx
    rw [List.eq_of_mem_replicate hx]; rfl
  · rw [zeroL, decN, List.foldl_append, foldl_zeros k 0 rfl]; exact h2
theorem dec_zeroL (k n : Nat) (hn : n ≤ 65535) : decB (zeroL k n) 100000 = decide ((zeroL k n).length ≤ 9) := by
  obtain ⟨h1, h2, h3⟩ := zeroL_facts k n
  have h4 := (digL_facts n).2.2
  by_cases h : (zeroL k n).length ≤ 9
  · rw [dec_end _ _ (by omega) h h1, h2, decide_eq_true h, decide_eq_true]; omega
  · rw [dec_short _ _ (by omega), decide_eq_false h]
/-- with another byte in its midst -/
def spoil (l : List UInt8) (i : Nat) (c : UInt8) : List UInt8 := l.take i ++ c :: l.drop (i + 1)
theorem spoil_len (l : List UInt8) (i : Nat) (c : UInt8) (h : i < l.length) : (spoil l i c).length = l.length := by
  simp [spoil]; omega
theorem dec_spoil (l : List UInt8) (i : Nat) (c : UInt8) (h : i < l.length) (ha : l.all isDig = true) : decB (spoil l i c) 999999999 = (decide (l.length ≤ 9) && isDig c) := by
  have hl := spoil_len l i c h
  by_cases h9 : l.length ≤ 9
  · have hall : (spoil l i c).all isDig = isDig c := by
      rw [List.all_eq_true] at ha
      have h1 : (l.take i).all isDig = true := by rw [List.all_eq_true]; exact fun x hx => ha x (List.mem_of_mem_take hx)
      have h2 : (l.drop (i + 1)).all isDig = true := by rw [List.all_eq_true]; exact fun x hx => ha x (List.mem_of_mem_drop hx)
      rw [spoil, List.all_append, List.all_cons, h1, h2]; simp
    by_cases hc : isDig c = true
    · have hlt := decN_lt _ (hall.trans hc)
      have hp : 10 ^ (spoil l i c).length ≤ 10 ^ 9 := Nat.pow_le_pow_right (by omega) (by omega)
      rw [dec_end _ _ (by omega) (by omega) (hall.trans hc), hc, decide_eq_true h9, decide_eq_true]; rfl
      omega
    · have hf : isDig c = false := by simpa using hc
      rw [hf, Bool.and_false]
      have : ¬ (spoil l i c).all isDig = true := by rw [hall]; exact hc
      simp [decB, this]
  · rw [dec_short _ _ (by omega), decide_eq_false h9, Bool.false_and]
theorem spoil_data (t : ByteArray) (i : Nat) (c : Int) (h : i < t.size) : (t.extract 0 i ++ oneB c ++ t.extract (i + 1) t.size).data.toList = spoil t.data.toList i (UInt8.ofNat c.toNat) := by
  have e : List.take (t.size - (i + 1)) (List.drop (i + 1) t.data.toList) = List.drop (i + 1) t.data.toList := List.take_of_length_le (by simp)
  simp [ByteArray.data_append, ByteArray.data_extract, oneB, spoil, e]
theorem dig_of (x : Int) (h0 : 0 ≤ x) (h1 : x ≤ 255) : isDig (UInt8.ofNat x.toNat) = (decide (48 ≤ x) && decide (x ≤ 57)) := by
  have : (UInt8.ofNat x.toNat).toNat = x.toNat := by rw [UInt8.toNat_ofNat']; omega
  unfold isDig
  rw [this]
  congr 1 <;> (rw [decide_eq_decide]; omega)
/-- Decimal of what is spoilt -/
theorem dec_spoilt (t : ByteArray) (i : Nat) (c y : Int) (bd : Bool) (W : World) (h : i < t.size) (h5 : t.size ≤ 12) (ha : t.data.toList.all isDig = true) (hy : decV (spoil t.data.toList i (UInt8.ofNat c.toNat)) 999999999 = y) (hb : (decide (t.size ≤ 9) && isDig (UInt8.ofNat c.toNat)) = bd) :
    Calls Try.prog 10 #[.string (t.extract 0 i ++ oneB c ++ t.extract (i + 1) t.size), .int .i64 999999999] W fun e w' => e = .returned (.tuple #[.int .i64 y, .bool bd]) ∧ Below W.heap.size W w' := by
  have hd := dec_spoil t.data.toList i (UInt8.ofNat c.toNat) (by simpa using h) ha
  have hl := spoil_len t.data.toList i (UInt8.ofNat c.toNat) (by simpa using h)
  have hs := spoil_data t i c h
  generalize t.extract 0 i ++ oneB c ++ t.extract (i + 1) t.size = T at *
  have hc := dec_any T 999999999 W (by rw [← hs] at hl; simp at hl; unfold maxLen; omega) (by decide)
  rw [hs, hy, hd] at hc
  simp only [Array.length_toList] at hc
  subst hb
  exact hc
set_option maxRecDepth 100000 in
set_option maxHeartbeats 1000000 in
theorem numZeros_walk (a0 : Int) (a1 : Int) (a2 : Int) (a3 : Int) (w0 : (Lit.int .u16 a0).wf = true) (w1 : (Lit.int .u8 a1).wf = true) (w2 : (Lit.int .u8 a2).wf = true) (w3 : (Lit.int .u8 a3).wf = true) (w : World) :
    Calls Try.prog 7 #[.int .u16 a0, .int .u8 a1, .int .u8 a2, .int .u8 a3] w fun e w' => e = .returned (.bool true) ∧ Below w.heap.size w w' := by
  obtain ⟨b00, b01⟩ := bounds_u16 w0
  obtain ⟨b10, b11⟩ := bounds_u8 w1
  obtain ⟨b20, b21⟩ := bounds_u8 w2
  obtain ⟨b30, b31⟩ := bounds_u8 w3
  clear w0 w1 w2 w3
  obtain ⟨n, NE⟩ : ∃ n : Nat, Hid (a0 = n) := ⟨a0.toNat, hideIt (by omega)⟩
  have HN := hideIt (show n ≤ 65535 by have := NE.out; omega)
  obtain ⟨z, hz⟩ : ∃ z : Nat, a1 % 8 = z := ⟨(a1 % 8).toNat, by omega⟩
  have hz8 : z < 8 := by omega
  go_enter Try.func7, Try.ntmps7
  go_wp2_with fail
  refine (digits_is _ (by have := HN.out; omega) NE.out).mono ?_
  rintro e w1 ⟨rfl, hb1⟩
  go_wp2_with fail
  go_loop [9, 10] (fun s i => ∃ (k : Nat) (t : ByteArray), k ≤ z ∧ i = .int .i64 k ∧ s = .string t ∧ t.data.toList = zeroL k n ∧ t.size ≤ 5 + k) (fun _ i => z - (intOf i).toNat)
  case atStart => exact ⟨0, _, by omega, rfl, rfl, by simp [zeroL], by have := (digL_len 4 n).2 (by have := HN.out; omega); simp [ByteArray.size]; omega⟩
  case round =>
    obtain ⟨k, t, hk, rfl, rfl, ht, hts⟩ := hrel
    have HT := hideIt ht
    clear ht
    by_cases hkz : k < z
    · go_wp2
      go_round
      case rel => exact ⟨k + 1, _, by omega, by go_num, rfl, zero_cat t HT.out, by rw [ByteArray.size_append]; show 1 + _ ≤ _; omega⟩
      case measure => simp [intOf]; omega
    · obtain rfl : k = z := by omega
      have hlen : t.size = k + (digL n).length := by rw [← (zeroL_facts k n).2.2, ← HT.out]; simp
      have hd1 := (digL_facts n).2.2
      have ht0 : 0 < t.size := by omega
      have HT5 := hideIt (show t.size ≤ maxLen by unfold maxLen; omega)
      clear hlen hd1
      obtain ⟨i, hi, hit⟩ : ∃ i : Nat, a2 % (t.size : Int) = i ∧ i < t.size := ⟨(a2 % (t.size : Int)).toNat, by have := Int.emod_nonneg a2 (show (t.size : Int) ≠ 0 by omega); omega, by have := Int.emod_lt_of_pos a2 (show 0 < (t.size : Int) by omega); have := Int.emod_nonneg a2 (show (t.size : Int) ≠ 0 by omega); omega⟩
      have hi1 : IntKind.i64.wrap ((i : Int) + 1) = (i : Int) + 1 := IntWalk.i64_in _ (by omega)
      have hi2 : ((i : Int) + 1).toNat = i + 1 := by omega
      have hi3 : (0 : Int) ≤ (i : Int) + 1 := by omega
      have hi4 : (i : Int) + 1 ≤ (t.size : Int) := by omega
      have hi5 : (i : Int) ≤ (t.size : Int) := by omega
      have hcv := conv_one_drew
      have hos := oneB_size
      obtain ⟨x, ok, X, O, hx⟩ : ∃ x ok, Hid (decV t.data.toList 100000 = x) ∧ Hid (decB t.data.toList 100000 = ok) ∧ ((t.size ≤ 9 ∧ x = a0 ∧ ok = true) ∨ (9 < t.size ∧ ok = false)) := by
        refine ⟨_, _, hideIt rfl, hideIt rfl, ?_⟩
        have hL : (zeroL k n).length = t.size := by rw [← HT.out]; simp
        have hd := dec_zeroL k n HN.out
        rw [HT.out]
        by_cases h9 : (zeroL k n).length ≤ 9
        · refine .inl ⟨by omega, ?_, by rw [hd]; exact decide_eq_true h9⟩
          rw [decV_true (by rw [hd]; exact decide_eq_true h9), (zeroL_facts k n).2.1, NE.out]
        · exact .inr ⟨by omega, by rw [hd]; exact decide_eq_false h9⟩
      have HA := hideIt (show t.data.toList.all isDig = true by rw [HT.out]; exact (zeroL_facts k n).1)
      obtain ⟨y, YD⟩ : ∃ y, Hid (decV (spoil t.data.toList i (UInt8.ofNat a3.toNat)) 999999999 = y) := ⟨_, hideIt rfl⟩
      obtain ⟨bd, BD⟩ : ∃ bd, Hid ((decide (t.size ≤ 9) && isDig (UInt8.ofNat a3.toNat)) = bd) := ⟨_, hideIt rfl⟩
      have BE := hideIt (show bd = (decide (t.size ≤ 9) && (decide (48 ≤ a3) && decide (a3 ≤ 57))) by rw [← BD.out, dig_of a3 b30 b31])
      rcases hx with ⟨h9, rfl, rfl⟩ | ⟨h9, rfl⟩
      all_goals
        go_wp2_with fail
        refine (dec_any _ _ _ HT5.out (by decide)).mono ?_
        rintro e w2 ⟨rfl, hb2⟩
        rw [X.out, O.out]
        go_wp2_with fail
        go_region_with (go_at_call 10; refine (dec_spoilt t i a3 y bd _ hit (by omega) HA.out YD.out BD.out).mono ?_; rintro e w3 ⟨rfl, hb3⟩)
        have HB3 := hideIt hb3
        clear hb3 hcv hos
        go_wp2_with fail
        refine (known_any _).mono ?_
        rintro e w4 ⟨rfl, hb4⟩
        rcases (show (48 ≤ a3 ∧ a3 ≤ 57) ∨ a3 < 48 ∨ 57 < a3 by omega) with ⟨hc1, hc2⟩ | hc | hc
        all_goals
          have hbd := BE.out
          go_wp2
          all_goals
            go_ret
            refine ⟨?_, below_then hb1 (below_then hb2 (below_then ((Below.refl _ _).alloc (Nat.le_refl _) _).drew (below_then HB3.out hb4)))⟩
            first | rfl | exact ret_true (by simp; omega)
end Go.Proofs.Ytghmhiigldfdoaa
