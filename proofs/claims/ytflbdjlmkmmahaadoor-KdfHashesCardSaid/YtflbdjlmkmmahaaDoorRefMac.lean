/- The contracts of the reference's with and Code. -/
import Derived.Test.YtflbdjlmkmmahaaDoorRefSum
import Derived.Test.YtflbdjlmkmmahaaDoorMacFlip
import Derived.Test.YtflbdjlmkmmahaaDoorFacts2
namespace Go.Proofs.YtflbdjlmkmmahaaDoor
open Go.ChangeShapes Go.WideShapes Go.ChangeAt Go.RowKit
set_option linter.unusedVariables false

theorem at_left {K l r : List UInt8} {j : Nat} (e : K = l ++ r) (hj : j < l.length) (hk : j < K.length) : K[j] = l[j] := by
  subst e; rw [List.getElem_append_left hj]
theorem at_zero {K l : List UInt8} {n j : Nat} (e : K = l ++ List.replicate n 0) (hj : l.length ≤ j) (hk : j < K.length) : K[j] = 0 := by
  subst e; rw [List.getElem_append_right hj]; simp
theorem piece_of' {w : World} {A : Option Addr} {bs : List UInt8} {n c : Nat} (hp : PieceOk w ⟨A, c, bs⟩) (hn : bs.length = n) : n ≤ c ∧ c ≤ 9223372036854775807 := by
  have h2 := hp.fits; have h3 := hp.most
  simp only at h2 h3; omega
set_option maxHeartbeats 2000000 in
theorem refwith_any (A : Option Addr) (bs : List UInt8) (n cp : Nat) (c : UInt8) (w : World) (hp : PieceOk w ⟨A, cp, bs⟩) (hn : bs.length = n) (h400 : n ≤ 400) :
    Calls Tryd.prog 19 #[.slice A n cp, .int .u8 (c.toNat : Int)] w fun e w' => ∃ g, w.heap.size ≤ g ∧ e = .returned (.slice (some ⟨g, 0, none⟩) 64 64) ∧ w'.ownsRow w.heap.size 5 1 (.slice (some ⟨g, 0, none⟩) 64 64) 64 (cellsOf (flipL (keyL bs) c)) ∧ Below w.heap.size w w' := by
  obtain ⟨i0, hi, hz0, hz1, hz2⟩ := info_parts info_u8
  have HKL := hideIt (keyL_length bs)
  by_cases h64 : 64 < n
  · have h64' : (64 : Int) < (n : Int) := by omega
    have hk : keyL bs = sumL bs ++ List.replicate 32 0 := by
      unfold keyL shortL
      rw [if_pos (by omega), sumL_length]
    have HKE := hideIt hk
    generalize keyL bs = KK at *
    have hm := piece_of' hp hn
    have HS := hideIt (refsum_any A bs n cp w hn hm.1 hm.2 hp.nil hp.bytes h400)
    clear hp hm hk
    go_enter Tryd.func19, Tryd.ntmps19
    go_wp2_with fail
    refine HS.out.mono ?_
    rintro e X ⟨v, rfl, o1, bX⟩
    obtain ⟨A1, c1, rfl, hl1, hp1⟩ := own_pieceAny o1 (by omega)
    have PP := hideIt hp1
    have HBL := hideIt hl1
    have XB : w.heap.size ≤ X.heap.size := bX.size
    have BX : ∀ {wr : World}, Below X.heap.size X wr → Below w.heap.size w wr := fun h => below_then bX h
    have HBX := hideIt (And.intro XB bX)
    clear HS o1 bX hp1 hl1 XB BX
    go_wp2_with (at_make; refine wpList_make_full _ rfl (.const (.int .i64 64)) (.const (.int .i64 64)) 22 rfl X.heap.size 5 i0 (.int .u8 0) 1 Tryd.underlying22 hi hz0 hz1 .i64 .i64 _ _ 64 rfl rfl (by omega) (by omega) (by rw [hz2]; omega) (by unfold maxLen; omega) (by omega) ?_; intro w1 hown hg)
    have hown0 := own_zeros hown
    have hbel : Below X.heap.size X w1 := below_made hg
    clear hown hg
    have XB := HBX.out.1
    have BX : ∀ {wr : World}, Below X.heap.size X wr → Below w.heap.size w wr := fun h => below_then HBX.out.2 h
    go_loopw [7] (fun i wr => ∃ j : Nat, j ≤ 64 ∧ i = .int .i64 j ∧ wr.ownsRow X.heap.size 5 1 (.slice (some ⟨X.heap.size, 0, none⟩) 64 64) 64 (cellsOf (flipping KK c j)) ∧ Below X.heap.size X wr) (fun i _ => 64 - (intOf i).toNat)
    case atStart => exact ⟨0, by omega, rfl, hown0, hbel⟩
    case round =>
      clear hown0 hbel
      obtain ⟨j, hj, rfl, hown, hb⟩ := hrel
      by_cases hlt : j < 64
      · have hlt' : (j : Int) < 64 := by omega
        have hkj : j < KK.length := by have := HKL.out; omega
        have hc2 : wr.cell? ⟨X.heap.size, j, none⟩ = some (.int .u8 0) := (hown.cellAt j (by omega)).trans (flipping_at KK c j HKL.out hlt)
        have hf := hown.frozenAt j
        have hst := hown.stored j (.int .u8 (c.toNat : Int))
        have b1 := hb.grown hst.2 hb.size (by intro x hx; cases hx; exact Nat.le_refl _)
        by_cases hin : j < 32
        · have hin' : (j : Int) < 32 := by omega
          obtain ⟨q, off, hA, hq, hcs⟩ := PP.out.bytes (by have := HBL.out; simp only; omega)
          simp only at hA hcs
          have hjb : j < (sumL bs).length := by have := HBL.out; omega
          have hK : KK[j] = (sumL bs)[j] := at_left HKE.out hjb hkj
          have hck : (wr.setCell ⟨X.heap.size, j, none⟩ (.int .u8 (c.toNat : Int))).cell? ⟨q, off + j, none⟩ = some (.int .u8 ((KK[j]).toNat : Int)) := by
            rw [b1.cell (by exact hq), hcs j hjb, hK]
          have hc3 : (wr.setCell ⟨X.heap.size, j, none⟩ (.int .u8 (c.toNat : Int))).cell? ⟨X.heap.size, j, none⟩ = some (.int .u8 (c.toNat : Int)) := by
            have h1 := hst.1.cellAt j (by omega)
            rw [h1, List.getElem?_set_self (by rw [cellsOf_length]; have := hown.1; rw [cellsOf_length] at this; omega)]
          have hf3 := hst.1.frozenAt j
          have hst2 := hst.1.stored j (.int .u8 ((KK[j] ^^^ c).toNat : Int))
          rw [List.set_set, flipping_set KK c j HKL.out hkj] at hst2
          have R : Hid (_ ∧ _) := hideIt ⟨hst2.1, b1.grown hst2.2 b1.size (by intro x hx; cases hx; exact Nat.le_refl _)⟩
          have u1 := (KK[j]).toNat_lt
          have u2 := c.toNat_lt
          have HV : bits .xor .u8 ((KK[j]).toNat : Int) (c.toNat : Int) = ((KK[j] ^^^ c).toNat : Int) := by
            rw [u8_xor_nat _ _ (by omega) (by omega), UInt8.toNat_xor]
          subst hA
          clear hst hst2 hown hb b1 hcs hK
          generalize (KK[j] ^^^ c).toNat = x at *
          generalize (KK[j]).toNat = p at *
          generalize c.toNat = cc at *
          go_wp2_with fail
          go_roundw
          case rel => exact ⟨j + 1, by omega, by go_num, R.out.1, R.out.2⟩
          case measure => simp [intOf]; omega
        · have hin' : ¬ (j : Int) < 32 := by omega
          have hK : KK[j] ^^^ c = c := by rw [at_zero HKE.out (by have := HBL.out; omega) hkj]; simp
          have hs := flipping_set KK c j HKL.out hkj
          rw [hK] at hs
          rw [hs] at hst
          have R : Hid (_ ∧ _) := hideIt ⟨hst.1, b1⟩
          clear hst hown hb b1 hs hK
          generalize c.toNat = cc at *
          go_wp2_with fail
          go_roundw
          case rel => exact ⟨j + 1, by omega, by go_num, R.out.1, R.out.2⟩
          case measure => simp [intOf]; omega
      · obtain rfl : j = 64 := by omega
        have e : flipping KK c 64 = flipL KK c := by simp [flipping, List.take_of_length_le (Nat.le_of_eq HKL.out)]
        rw [e] at hown
        have R : Hid (_ ∧ _) := hideIt ⟨own_base hown XB, BX hb⟩
        clear hown hb
        go_wp2_with fail
        go_ret
        exact ⟨X.heap.size, XB, rfl, R.out.1, R.out.2⟩
  · have h64' : ¬ (64 : Int) < (n : Int) := by omega
    have hk : keyL bs = bs ++ List.replicate (64 - n) 0 := by
      unfold keyL shortL
      rw [if_neg (by omega), hn]
    have HKE := hideIt hk
    generalize keyL bs = KK at *
    obtain ⟨X, hX⟩ : ∃ X, X = w := ⟨_, rfl⟩
    rw [← hX] at hp
    have PP := hideIt hp
    have HBL := hideIt hn
    have HX := hideIt hX
    clear hp hk
    have hcp : n ≤ 9223372036854775807 := by omega
    rw [← hX]
    clear hX
    go_enter Tryd.func19, Tryd.ntmps19
    go_wp2_with (at_make; refine wpList_make_full _ rfl (.const (.int .i64 64)) (.const (.int .i64 64)) 22 rfl X.heap.size 5 i0 (.int .u8 0) 1 Tryd.underlying22 hi hz0 hz1 .i64 .i64 _ _ 64 rfl rfl (by omega) (by omega) (by rw [hz2]; omega) (by unfold maxLen; omega) (by omega) ?_; intro w1 hown hg)
    have hown0 := own_zeros hown
    have hbel : Below X.heap.size X w1 := below_made hg
    clear hown hg
    have XB : X.heap.size ≤ X.heap.size := Nat.le_refl _
    have BX : ∀ {wr : World}, Below X.heap.size X wr → Below X.heap.size X wr := fun h => h
    go_loopw [7] (fun i wr => ∃ j : Nat, j ≤ 64 ∧ i = .int .i64 j ∧ wr.ownsRow X.heap.size 5 1 (.slice (some ⟨X.heap.size, 0, none⟩) 64 64) 64 (cellsOf (flipping KK c j)) ∧ Below X.heap.size X wr) (fun i _ => 64 - (intOf i).toNat)
    case atStart => exact ⟨0, by omega, rfl, hown0, hbel⟩
    case round =>
      clear hown0 hbel
      obtain ⟨j, hj, rfl, hown, hb⟩ := hrel
      by_cases hlt : j < 64
      · have hlt' : (j : Int) < 64 := by omega
        have hkj : j < KK.length := by have := HKL.out; omega
        have hc2 : wr.cell? ⟨X.heap.size, j, none⟩ = some (.int .u8 0) := (hown.cellAt j (by omega)).trans (flipping_at KK c j HKL.out hlt)
        have hf := hown.frozenAt j
        have hst := hown.stored j (.int .u8 (c.toNat : Int))
        have b1 := hb.grown hst.2 hb.size (by intro x hx; cases hx; exact Nat.le_refl _)
        by_cases hin : j < n
        · have hin' : (j : Int) < (n : Int) := by omega
          obtain ⟨q, off, hA, hq, hcs⟩ := PP.out.bytes (by have := HBL.out; simp only; omega)
          simp only at hA hcs
          have hjb : j < bs.length := by have := HBL.out; omega
          have hK : KK[j] = bs[j] := at_left HKE.out hjb hkj
          have hck : (wr.setCell ⟨X.heap.size, j, none⟩ (.int .u8 (c.toNat : Int))).cell? ⟨q, off + j, none⟩ = some (.int .u8 ((KK[j]).toNat : Int)) := by
            rw [b1.cell (by exact hq), hcs j hjb, hK]
          have hc3 : (wr.setCell ⟨X.heap.size, j, none⟩ (.int .u8 (c.toNat : Int))).cell? ⟨X.heap.size, j, none⟩ = some (.int .u8 (c.toNat : Int)) := by
            have h1 := hst.1.cellAt j (by omega)
            rw [h1, List.getElem?_set_self (by rw [cellsOf_length]; have := hown.1; rw [cellsOf_length] at this; omega)]
          have hf3 := hst.1.frozenAt j
          have hst2 := hst.1.stored j (.int .u8 ((KK[j] ^^^ c).toNat : Int))
          rw [List.set_set, flipping_set KK c j HKL.out hkj] at hst2
          have R : Hid (_ ∧ _) := hideIt ⟨hst2.1, b1.grown hst2.2 b1.size (by intro x hx; cases hx; exact Nat.le_refl _)⟩
          have u1 := (KK[j]).toNat_lt
          have u2 := c.toNat_lt
          have HV : bits .xor .u8 ((KK[j]).toNat : Int) (c.toNat : Int) = ((KK[j] ^^^ c).toNat : Int) := by
            rw [u8_xor_nat _ _ (by omega) (by omega), UInt8.toNat_xor]
          subst hA
          clear hst hst2 hown hb b1 hcs hK
          generalize (KK[j] ^^^ c).toNat = x at *
          generalize (KK[j]).toNat = p at *
          generalize c.toNat = cc at *
          go_wp2_with fail
          go_roundw
          case rel => exact ⟨j + 1, by omega, by go_num, R.out.1, R.out.2⟩
          case measure => simp [intOf]; omega
        · have hin' : ¬ (j : Int) < (n : Int) := by omega
          have hK : KK[j] ^^^ c = c := by rw [at_zero HKE.out (by have := HBL.out; omega) hkj]; simp
          have hs := flipping_set KK c j HKL.out hkj
          rw [hK] at hs
          rw [hs] at hst
          have R : Hid (_ ∧ _) := hideIt ⟨hst.1, b1⟩
          clear hst hown hb b1 hs hK
          generalize c.toNat = cc at *
          go_wp2_with fail
          go_roundw
          case rel => exact ⟨j + 1, by omega, by go_num, R.out.1, R.out.2⟩
          case measure => simp [intOf]; omega
      · obtain rfl : j = 64 := by omega
        have e : flipping KK c 64 = flipL KK c := by simp [flipping, List.take_of_length_le (Nat.le_of_eq HKL.out)]
        rw [e] at hown
        have R : Hid (_ ∧ _) := hideIt ⟨own_base hown XB, BX hb⟩
        clear hown hb
        go_wp2_with fail
        go_ret
        exact ⟨X.heap.size, XB, rfl, R.out.1, R.out.2⟩
set_option maxHeartbeats 2000000 in
theorem refcode_any (K : Option Addr) (key : List UInt8) (kn kc : Nat) (A : Option Addr) (msg : List UInt8) (n c : Nat) (w : World) (hk : PieceOk w ⟨K, kc, key⟩) (hkn : key.length = kn) (hk4 : kn ≤ 400) (hp : PieceOk w ⟨A, c, msg⟩) (hn : msg.length = n) (hn3 : n ≤ 300) :
    Calls Tryd.prog 15 #[.slice K kn kc, .slice A n c] w fun e w' => ∃ v, e = .returned v ∧ w'.ownsRow w.heap.size 5 1 v 32 (cellsOf (codeL key msg)) ∧ Below w.heap.size w w' := by
  have HW1 := hideIt (refwith_any K key kn kc 0x36 w hk hkn hk4)
  have HK := hideIt hk
  have HP := hideIt hp
  have HN := hideIt hn
  have HKN := hideIt hkn
  clear hk hp hn hkn
  go_enter Tryd.func15, Tryd.ntmps15
  go_wp2_with fail
  refine HW1.out.mono ?_
  rintro e w1 ⟨g1, hg1, rfl, o1, b1⟩
  have O1 := hideIt o1
  have B1 := hideIt b1
  clear o1 b1 HW1
  go_wp2_with (at_builtin; refine wpList_app rfl (.tmp 10) (.tmp 11) rfl w.heap.size (.slice (some ⟨g1, 0, none⟩) 64 64) 64 (flipL (keyL key) 0x36) rfl (by exact O1.out) A n c w1.heap.size msg rfl HN.out (by exact HP.out.nil) (by exact (HP.out.keep B1.out).bytes) (by omega) (by exact B1.out.size) ?_; intro v2 w2 o2 g2; have O2 := hideIt o2; have B2 := hideIt (B1.out.grown g2 B1.out.size (fun k hk => (O1.out.lt k hk).1)); clear o2 g2)
  refine (refwith_any K key kn kc 0x5c w2 (HK.out.keep B2.out) HKN.out hk4).mono ?_
  rintro e w3 ⟨g3, hg3, rfl, o3, b3⟩
  have O3 := hideIt o3
  have B3 := hideIt b3
  have O2' := own_stay O2.out b3
  obtain ⟨A2, c2, rfl, hl2, hp2⟩ := own_pieceAny O2' (by omega)
  have hm2 := piece_of' hp2 hl2
  have HS := hideIt (refsum_any A2 _ _ c2 w3 hl2 hm2.1 hm2.2 hp2.nil hp2.bytes (by omega))
  clear o3 b3 O2' hp2 hm2 hl2
  go_wp2_with fail
  refine HS.out.mono ?_
  rintro e w4 ⟨v4, rfl, o4, b4⟩
  obtain ⟨A4, c4, rfl, hl4, hp4⟩ := own_pieceAny o4 (by omega)
  have O3' := hideIt (own_stay O3.out b4)
  have HP4 := hideIt hp4
  have HL4 := hideIt hl4
  have B4 := hideIt (below_then B3.out b4)
  clear o4 b4 hp4 hl4 HS
  go_wp2_with (at_builtin; refine wpList_app rfl (.tmp 17) (.tmp 18) rfl w2.heap.size (.slice (some ⟨g3, 0, none⟩) 64 64) 64 (flipL (keyL key) 0x5c) rfl (by exact O3'.out) A4 32 c4 w4.heap.size (sumL (flipL (keyL key) 0x36 ++ msg)) rfl HL4.out (by exact HP4.out.nil) (by exact HP4.out.bytes) (by omega) (by exact B4.out.size) ?_; intro v5 w5 o5 g5; have O5 := hideIt o5; have B5 := hideIt (B4.out.grown g5 B4.out.size (fun k hk => (O3'.out.lt k hk).1)); clear o5 g5)
  obtain ⟨A5, c5, rfl, hl5, hp5⟩ := own_pieceAny O5.out (by omega)
  have hm5 := piece_of' hp5 hl5
  refine (refsum_any A5 _ _ c5 w5 hl5 hm5.1 hm5.2 hp5.nil hp5.bytes (by omega)).mono ?_
  rintro e w6 ⟨v6, rfl, o6, b6⟩
  have BB := hideIt (below_then (B2.out.trans (B5.out.mono B2.out.size)) b6)
  obtain ⟨g6, c6, rfl, hg6, _, _⟩ := own_some o6 (by omega)
  have hs : w.heap.size ≤ w5.heap.size := Nat.le_trans B2.out.size B5.out.size
  have O6 : Hid (w6.ownsRow w.heap.size 5 1 (.slice (some ⟨g6, 0, none⟩) 32 c6) 32 (cellsOf (codeL key msg))) := hideIt (own_base o6 (Nat.le_trans hs hg6))
  clear o6 b6 hm5 hp5 hl5 O5 B5 O3' HP4 B4 O2 O1 B1 B2 B3 O3
  go_wp2_with fail
  go_ret
  exact ⟨_, rfl, O6.out, BB.out⟩
end Go.Proofs.YtflbdjlmkmmahaaDoor
