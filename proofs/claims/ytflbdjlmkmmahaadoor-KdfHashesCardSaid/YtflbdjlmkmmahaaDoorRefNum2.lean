/- The contracts of the reference's Put and Get of numbers, and of its rot. -/
import Derived.Test.YtflbdjlmkmmahaaDoorSlices
namespace Go.Proofs.YtflbdjlmkmmahaaDoor
open Go.ChangeShapes Go.WideShapes Go.ChangeAt Go.RowKit
set_option linter.unusedVariables false

theorem refrot_any (x n : Nat) (w : World) (hx : x < 4294967296) (h1 : 1 ≤ n) (h2 : n ≤ 31) :
    Calls Tryd.prog 35 #[.int .u32 x, .int .u64 n] w fun e w' => e = .returned (.int .u32 (rotR x n : Nat)) ∧ w = w' := by
  have e1 : ((x : Int) * 2 ^ (32 - n) % 4294967296) = ((x * 2 ^ (32 - n) % 4294967296 : Nat) : Int) := by
    rw [Int.natCast_emod, Int.natCast_mul, Int.natCast_pow]; rfl
  have e2 : ((x : Int) / 2 ^ n) = ((x / 2 ^ n : Nat) : Int) := by rw [Int.natCast_ediv, Int.natCast_pow]; rfl
  have h4 : x / 2 ^ n ≤ x := Nat.div_le_self _ _
  have hr : Hid (bits BinOp.or IntKind.u32 ((x : Int) / 2 ^ n) ((x : Int) * 2 ^ (32 - n) % 4294967296) = ((rotR x n : Nat) : Int)) := hideIt (by
    rw [e1, e2, u32_or_nat _ _ (by omega) (by omega), rotR, Nat.shiftRight_eq_div_pow, Nat.shiftLeft_eq])
  clear e1 e2 h4
  go_enter Tryd.func35, Tryd.ntmps35
  go_wp2_with fail
  go_ret
  exact ⟨by rw [← hr.out]; rfl, rfl⟩
theorem refget_any (A : Option Addr) (bs : List UInt8) (m c B : Nat) (w : World) (hb : BytesAt w B A bs) (hm : bs.length = m) (h0 : 0 < m) (h8 : m ≤ 8) (hl : m ≤ c) :
    Calls Tryd.prog 39 #[.slice A m c] w fun e w' => e = .returned (.int .u64 (getN bs : Nat)) ∧ w = w' := by
  obtain ⟨b, off, rfl, hB, hc⟩ := hb (by omega)
  have HC := hideIt hc
  clear hc hb
  have hm8 : (m : Int) ≤ 8 := by omega
  have hm0 : (m : Int) - 8 ≤ 0 := by omega
  go_enter Tryd.func39, Tryd.ntmps39
  go_wp2_with fail
  go_loop [3, 4] (fun n i => ∃ k : Nat, k ≤ m ∧ i = .int .i64 (k : Int) ∧ n = .int .u64 (getN (bs.take k) : Nat)) (fun _ i => m - (intOf i).toNat)
  case atStart => exact ⟨0, Nat.zero_le _, by go_num, rfl⟩
  case round =>
    obtain ⟨k, hk, rfl, rfl⟩ := hrel
    by_cases hlt : k < m
    · have hlt' : k < bs.length := by omega
      have hck := HC.out k hlt'
      have hgl : getN (bs.take k) < 72057594037927936 := getN_take_lt bs k (by omega)
      have HS : Hid (getN (bs.take (k + 1)) = 256 * getN (bs.take k) + (bs[k]).toNat) := hideIt (by rw [take_snoc8 bs k hlt', getN_snoc])
      have hu := (bs[k]).toNat_lt
      generalize getN (bs.take k) = g at *
      generalize (bs[k]).toNat = u at *
      go_wp2_with fail
      go_round
      case rel => exact ⟨k + 1, by omega, by go_num, by rw [HS.out]; go_num⟩
      case measure => simp [intOf]; omega
    · obtain rfl : k = m := by omega
      go_wp2_with fail
      go_ret
      exact ⟨by rw [List.take_of_length_le (by omega)]; rfl, rfl⟩
theorem putL_nth (n k j : Nat) (hj : j < k) : (putL n k)[j]? = some (UInt8.ofNat (n / 256 ^ (k - 1 - j))) := by
  induction k generalizing j with
  | zero => omega
  | succ k ih =>
    rw [putL]
    match j with
    | 0 => simp
    | j + 1 => rw [List.getElem?_cons_succ, ih j (by omega)]; congr 4; omega
theorem putL_next (n k j : Nat) (hj : j < k) : (putL n k).take (j + 1) = (putL n k).take j ++ [UInt8.ofNat (n / 256 ^ (k - 1 - j))] := by
  have hl : j < (putL n k).length := by rw [putL_length]; exact hj
  rw [take_snoc8 _ _ hl]
  have := putL_nth n k j hj
  rw [List.getElem?_eq_getElem hl] at this
  rw [Option.some.inj this]
/-- one byte in a block of its own -/
theorem one_at (w : World) (y : UInt8) : BytesAt (w.alloc (.cells #[.int .u8 (y.toNat : Int)] 5)) (w.heap.size + 1) (some ⟨w.heap.size, 0, none⟩) [y] := fun _ =>
  ⟨w.heap.size, 0, rfl, by omega, fun j hj => by
    obtain rfl : j = 0 := by simpa using hj
    rw [cell_of_row _ _ _ _ _ _ (heap_alloc_new w _)]; rfl⟩

set_option maxHeartbeats 1000000 in
theorem refput4 (n : Nat) (w : World) (hn : n < 18446744073709551616) :
    Calls Tryd.prog 29 #[.int .u64 n, .int .i64 4] w fun e w' => ∃ v, e = .returned v ∧ w'.ownsRow w.heap.size 5 1 v 4 (cellsOf (putL n 4)) ∧ Below w.heap.size w w' := by
  go_enter Tryd.func29, Tryd.ntmps29
  go_wp2_with fail
  go_loopw [5, 6] (fun v i wr => ∃ j i' : Nat, j + i' = 4 ∧ i = .int .i64 ((i' : Int) - 1) ∧ wr.ownsRow w.heap.size 5 1 v j (cellsOf ((putL n 4).take j)) ∧ Below w.heap.size w wr) (fun _ i _ => ((intOf i) + 1).toNat)
  case atStart => exact ⟨0, 4, by omega, by go_num, own_none _ _ _, Below.refl _ _⟩
  case round =>
    obtain ⟨j, i', hj, rfl, ho, hb⟩ := hrel
    by_cases hlt : 0 < i'
    · obtain ⟨i, rfl⟩ : ∃ i, i' = i + 1 := ⟨i' - 1, by omega⟩
      have ei : ((i + 1 : Nat) : Int) - 1 = (i : Int) := by omega
      rw [ei]
      have hi0 : (0 : Int) ≤ (i : Int) := by omega
      replace ho := hideIt ho
      replace hb := hideIt hb
      go_wp2_with fail
      go_loop [7, 8] (fun x q => ∃ k : Nat, k ≤ i ∧ q = .int .i64 (k : Int) ∧ x = .int .u64 ((n / 256 ^ k : Nat) : Int)) (fun _ q => i - (intOf q).toNat)
      case atStart => exact ⟨0, by omega, rfl, by simp⟩
      case round =>
        obtain ⟨k, hk, rfl, rfl⟩ := hrel
        by_cases hki : k < i
        · have HX : Hid (n / 256 ^ k / 256 = n / 256 ^ (k + 1)) := hideIt (by rw [Nat.div_div_eq_div_mul, Nat.pow_succ])
          have hxl : n / 256 ^ k < 18446744073709551616 := Nat.lt_of_le_of_lt (Nat.div_le_self _ _) hn
          generalize n / 256 ^ k = x at *
          go_wp2_with fail
          go_round
          case rel => exact ⟨k + 1, by omega, by go_num, by rw [← HX.out]; go_num⟩
          case measure => simp [intOf]; omega
        · obtain rfl : k = i := by omega
          have HN := hideIt (putL_next n 4 j (by omega))
          rw [show 4 - 1 - j = k by omega] at HN
          have hxl : n / 256 ^ k < 18446744073709551616 := Nat.lt_of_le_of_lt (Nat.div_le_self _ _) hn
          have hy : (((n / 256 ^ k : Nat) : Int) % 256) = ((UInt8.ofNat (n / 256 ^ k)).toNat : Int) := by rw [UInt8.toNat_ofNat']; omega
          generalize n / 256 ^ k = x at *
          generalize UInt8.ofNat x = y at *
          have h1 := hideIt (one_at wr y)
          have hyl := y.toNat_lt
          have HO2 := hideIt (own_stay ho.out (below_one (Below.refl _ wr) (.cells #[.int .u8 (y.toNat : Int)] 5)))
          have HS2 : Hid (w.heap.size ≤ (wr.alloc (.cells #[.int .u8 (y.toNat : Int)] 5)).heap.size) := hideIt (Nat.le_trans hb.out.size (by rw [alloc_size]; omega))
          go_wp2_with (at_builtin; refine wpList_app rfl (.tmp 25) (.tmp 29) rfl w.heap.size _ j ((putL n 4).take j) rfl (by exact HO2.out) (some ⟨wr.heap.size, 0, none⟩) 1 1 (wr.heap.size + 1) [y] rfl rfl (by intro h; cases h) (by exact h1.out) (by omega) (by exact HS2.out) ?_; intro v2 w2 o2 g2)
          go_roundw
          case rel => exact ⟨j + 1, k, by omega, by go_num, HN.out ▸ o2, (below_one hb.out _).grown g2 HS2.out (fun q hq => by
            rcases HO2.out.2 with ⟨h0, _⟩ | ⟨g', cap', cur, h0, hg', _⟩
            · rw [h0] at hq; cases hq
            · rw [h0] at hq; cases hq; exact hg')⟩
          case measure => simp [intOf]
    · obtain rfl : i' = 0 := by omega
      obtain rfl : j = 4 := by omega
      have HP : Hid ((putL n 4).take 4 = putL n 4) := hideIt (List.take_of_length_le (by rw [putL_length]; omega))
      go_wp2_with fail
      go_ret
      exact ⟨_, rfl, HP.out ▸ ho, hb⟩
set_option maxHeartbeats 1000000 in
theorem refput8 (n : Nat) (w : World) (hn : n < 18446744073709551616) :
    Calls Tryd.prog 29 #[.int .u64 n, .int .i64 8] w fun e w' => ∃ v, e = .returned v ∧ w'.ownsRow w.heap.size 5 1 v 8 (cellsOf (putL n 8)) ∧ Below w.heap.size w w' := by
  go_enter Tryd.func29, Tryd.ntmps29
  go_wp2_with fail
  go_loopw [5, 6] (fun v i wr => ∃ j i' : Nat, j + i' = 8 ∧ i = .int .i64 ((i' : Int) - 1) ∧ wr.ownsRow w.heap.size 5 1 v j (cellsOf ((putL n 8).take j)) ∧ Below w.heap.size w wr) (fun _ i _ => ((intOf i) + 1).toNat)
  case atStart => exact ⟨0, 8, by omega, by go_num, own_none _ _ _, Below.refl _ _⟩
  case round =>
    obtain ⟨j, i', hj, rfl, ho, hb⟩ := hrel
    by_cases hlt : 0 < i'
    · obtain ⟨i, rfl⟩ : ∃ i, i' = i + 1 := ⟨i' - 1, by omega⟩
      have ei : ((i + 1 : Nat) : Int) - 1 = (i : Int) := by omega
      rw [ei]
      have hi0 : (0 : Int) ≤ (i : Int) := by omega
      replace ho := hideIt ho
      replace hb := hideIt hb
      go_wp2_with fail
      go_loop [7, 8] (fun x q => ∃ k : Nat, k ≤ i ∧ q = .int .i64 (k : Int) ∧ x = .int .u64 ((n / 256 ^ k : Nat) : Int)) (fun _ q => i - (intOf q).toNat)
      case atStart => exact ⟨0, by omega, rfl, by simp⟩
      case round =>
        obtain ⟨k, hk, rfl, rfl⟩ := hrel
        by_cases hki : k < i
        · have HX : Hid (n / 256 ^ k / 256 = n / 256 ^ (k + 1)) := hideIt (by rw [Nat.div_div_eq_div_mul, Nat.pow_succ])
          have hxl : n / 256 ^ k < 18446744073709551616 := Nat.lt_of_le_of_lt (Nat.div_le_self _ _) hn
          generalize n / 256 ^ k = x at *
          go_wp2_with fail
          go_round
          case rel => exact ⟨k + 1, by omega, by go_num, by rw [← HX.out]; go_num⟩
          case measure => simp [intOf]; omega
        · obtain rfl : k = i := by omega
          have HN := hideIt (putL_next n 8 j (by omega))
          rw [show 8 - 1 - j = k by omega] at HN
          have hxl : n / 256 ^ k < 18446744073709551616 := Nat.lt_of_le_of_lt (Nat.div_le_self _ _) hn
          have hy : (((n / 256 ^ k : Nat) : Int) % 256) = ((UInt8.ofNat (n / 256 ^ k)).toNat : Int) := by rw [UInt8.toNat_ofNat']; omega
          generalize n / 256 ^ k = x at *
          generalize UInt8.ofNat x = y at *
          have h1 := hideIt (one_at wr y)
          have hyl := y.toNat_lt
          have HO2 := hideIt (own_stay ho.out (below_one (Below.refl _ wr) (.cells #[.int .u8 (y.toNat : Int)] 5)))
          have HS2 : Hid (w.heap.size ≤ (wr.alloc (.cells #[.int .u8 (y.toNat : Int)] 5)).heap.size) := hideIt (Nat.le_trans hb.out.size (by rw [alloc_size]; omega))
          go_wp2_with (at_builtin; refine wpList_app rfl (.tmp 25) (.tmp 29) rfl w.heap.size _ j ((putL n 8).take j) rfl (by exact HO2.out) (some ⟨wr.heap.size, 0, none⟩) 1 1 (wr.heap.size + 1) [y] rfl rfl (by intro h; cases h) (by exact h1.out) (by omega) (by exact HS2.out) ?_; intro v2 w2 o2 g2)
          go_roundw
          case rel => exact ⟨j + 1, k, by omega, by go_num, HN.out ▸ o2, (below_one hb.out _).grown g2 HS2.out (fun q hq => by
            rcases HO2.out.2 with ⟨h0, _⟩ | ⟨g', cap', cur, h0, hg', _⟩
            · rw [h0] at hq; cases hq
            · rw [h0] at hq; cases hq; exact hg')⟩
          case measure => simp [intOf]
    · obtain rfl : i' = 0 := by omega
      obtain rfl : j = 8 := by omega
      have HP : Hid ((putL n 8).take 8 = putL n 8) := hideIt (List.take_of_length_le (by rw [putL_length]; omega))
      go_wp2_with fail
      go_ret
      exact ⟨_, rfl, HP.out ▸ ho, hb⟩

/-- what a call owns, grown -/
theorem below_own {a b c : World} {base n : Nat} {e : TypeId} {v : Value} {xs : List Value} (h : Below base a b) (hb : base ≤ b.heap.size) (ho : b.ownsRow base e 1 v n xs) (hg : b.grownBy c v.ownBlock) : Below base a c :=
  h.grown hg hb (fun q hq => by
    rcases ho.2 with ⟨h0, _⟩ | ⟨g', cap', cur, h0, hg', _⟩
    · rw [h0] at hq; cases hq
    · rw [h0] at hq; cases hq; exact hg')
theorem own_made1 (w : World) (y : UInt8) : (w.alloc (.cells #[.int .u8 (y.toNat : Int)] 5)).ownsRow w.heap.size 5 1 (.slice (some ⟨w.heap.size, 0, none⟩) 1 1) 1 (cellsOf [y]) :=
  ⟨rfl, Or.inr ⟨w.heap.size, 1, #[.int .u8 (y.toNat : Int)], rfl, Nat.le_refl _, heap_alloc_new w _, Nat.le_refl _, by unfold maxLen; omega, rfl, rfl⟩⟩

set_option maxHeartbeats 1000000 in
theorem refpad_any (n : Nat) (w : World) (hn : n < 18446744073709551616) :
    Calls Tryd.prog 27 #[.int .u64 n] w fun e w' => ∃ v, e = .returned v ∧ w'.ownsRow w.heap.size 5 1 v (padL n).length (cellsOf (padL n)) ∧ Below w.heap.size w w' := by
  have HL : Hid ((padL n).length = 1 + (119 - n % 64) % 64 + 8) := hideIt (by rw [padL_length]; omega)
  have HP : Hid (padL n = (128 :: List.replicate ((119 - n % 64) % 64) 0) ++ putL (n * 8 % 18446744073709551616) 8) := hideIt rfl
  generalize padL n = pad at *
  generalize hz : (119 - n % 64) % 64 = z at *
  have hz64 : z < 64 := by omega
  have HZ := hideIt hz
  have hn8 : n * 8 % 18446744073709551616 < 18446744073709551616 := Nat.mod_lt _ (by decide)
  have hw8 : IntKind.u64.wrap (8 * (n : Int)) = ((n * 8 % 18446744073709551616 : Nat) : Int) := by rw [IntKind.wrap_u64]; omega
  generalize n * 8 % 18446744073709551616 = m at *
  clear hz
  have o0 := own_made1 w 128
  have b0 : Below w.heap.size w (w.alloc (.cells #[.int .u8 ((128 : UInt8).toNat : Int)] 5)) := below_one (Below.refl _ _) _
  replace o0 := hideIt o0
  replace b0 := hideIt b0
  go_enter Tryd.func27, Tryd.ntmps27
  go_wp2_with fail
  go_loopw [3] (fun v wr => ∃ j A c, j ≤ z ∧ v = .slice A (1 + j) c ∧ wr.ownsRow w.heap.size 5 1 v (1 + j) (cellsOf (128 :: List.replicate j 0)) ∧ Below w.heap.size w wr) (fun v _ => 65 - lenV v)
  case atStart => exact ⟨0, some ⟨w.heap.size, 0, none⟩, 1, by omega, rfl, o0.out, b0.out⟩
  case round =>
    clear o0 b0
    obtain ⟨j, A, c, hj, rfl, ho, hb⟩ := hrel
    replace ho := hideIt ho
    replace hb := hideIt hb
    by_cases hlt : j < z
    · have hne : ¬ ((n : Int) % 64 + (1 + (j : Int)) + 8) % 64 = 0 := by have := HZ.out; omega
      have hj65 : 1 + j ≤ 9223372036854775807 := by omega
      have h1 := hideIt (one_at wr 0)
      have HO2 := hideIt (own_stay ho.out (below_one (Below.refl _ wr) (.cells #[.int .u8 ((0 : UInt8).toNat : Int)] 5)))
      have HS2 : Hid (w.heap.size ≤ (wr.alloc (.cells #[.int .u8 ((0 : UInt8).toNat : Int)] 5)).heap.size) := hideIt (Nat.le_trans hb.out.size (by rw [alloc_size]; omega))
      have HE : Hid ((128 :: List.replicate j (0 : UInt8)) ++ [0] = 128 :: List.replicate (j + 1) 0) := hideIt (by rw [List.cons_append, ← List.replicate_succ'])
      go_wp2_with (at_builtin; refine wpList_app rfl (.tmp 15) (.tmp 16) rfl w.heap.size (.slice A (1 + j) c) (1 + j) (128 :: List.replicate j 0) rfl (by exact HO2.out) (some ⟨wr.heap.size, 0, none⟩) 1 1 (wr.heap.size + 1) [0] rfl rfl (by intro h; cases h) (by exact h1.out) (by omega) (by exact HS2.out) ?_; intro v2 w2 o2 g2)
      rw [HE.out, show 1 + j + 1 = 1 + (j + 1) by omega] at o2
      obtain ⟨A2, c2, rfl, _, _, _, _, _⟩ := own_open o2
      go_roundw
      case rel => exact ⟨j + 1, A2, c2, by omega, rfl, o2, below_own (below_one hb.out _) HS2.out HO2.out g2⟩
      case measure => simp [lenV]; omega
    · obtain rfl : j = z := by omega
      have hne : ((n : Int) % 64 + (1 + (j : Int)) + 8) % 64 = 0 := by have := HZ.out; omega
      go_wp2_with fail
      refine (refput8 m wr hn8).mono ?_
      rintro e w2 ⟨v2, rfl, o2, b2⟩
      obtain ⟨A2, c2, rfl, _, hc2, _, hn2, hb2⟩ := own_open o2
      have HO2 := hideIt (own_stay ho.out b2)
      have HB2 := hideIt hb2
      have BB := hideIt (below_then hb.out b2)
      have HN2 := hideIt hn2
      clear o2 b2 hb2 hn2
      go_wp2_with (at_builtin; refine wpList_app rfl (.tmp 21) (.tmp 22) rfl w.heap.size (.slice A (1 + j) c) (1 + j) (128 :: List.replicate j 0) rfl (by exact HO2.out) A2 8 c2 w2.heap.size (putL m 8) rfl (putL_length _ _) HN2.out (by exact HB2.out) (by omega) (by exact BB.out.size) ?_; intro v3 w3 o3 g3)
      go_ret
      exact ⟨_, rfl, by rw [HL.out, HP.out]; exact o3, below_own BB.out BB.out.size HO2.out g3⟩
end Go.Proofs.YtflbdjlmkmmahaaDoor
