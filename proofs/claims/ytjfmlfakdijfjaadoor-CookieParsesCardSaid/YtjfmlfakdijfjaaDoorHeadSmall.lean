/- Contracts of head.small, head.Same. -/
import Derived.Test.YtjfmlfakdijfjaaDoorHeadTok
import Derived.Test.YtjfmlfakdijfjaaDoorByteRow
import Derived.Deep.Cut
import Derived.Handy
namespace Go.Proofs.YtjfmlfakdijfjaaDoor
open Go.ChangeShapes Go.WideShapes Go.ChangeAt Go.RowKit
set_option linter.unusedVariables false
set_option linter.unusedSimpArgs false

/-- great letters made small, up to a place -/
def mixL (l : List UInt8) (k : Nat) : List UInt8 := l.mapIdx fun j c => if j < k then smallB c else c
theorem mix_len (l : List UInt8) (k : Nat) : (mixL l k).length = l.length := by simp [mixL]
theorem mix_zero (l : List UInt8) : mixL l 0 = l := by
  refine List.ext_getElem (by simp [mixL]) fun j h1 h2 => ?_
  simp [mixL]
theorem mix_all (l : List UInt8) : mixL l l.length = smallL l := by
  refine List.ext_getElem (by simp [mixL, smallL]) fun j h1 h2 => ?_
  rw [mix_len] at h1
  simp [mixL, smallL, h1]
theorem mix_at (l : List UInt8) (k : Nat) (hk : k < l.length) : (mixL l k)[k]'(by rw [mix_len]; exact hk) = l[k] := by simp [mixL]
theorem mix_set (l : List UInt8) (k : Nat) (hk : k < l.length) : (mixL l k).set k (smallB l[k]) = mixL l (k + 1) := by
  refine List.ext_getElem (by simp [mixL]) fun j h1 h2 => ?_
  rw [List.getElem_set]
  by_cases h : k = j
  · subst h; simp [mixL]
  · rw [if_neg h]
    simp only [mixL, List.getElem_mapIdx]
    by_cases hj : j < k
    · rw [if_pos hj, if_pos (by omega)]
    · rw [if_neg hj, if_neg (by omega)]
theorem mix_same (l : List UInt8) (k m : Nat) (hkm : k ≤ m) (h : ∀ j (hj : j < l.length), k ≤ j → j < m → smallB l[j] = l[j]) : mixL l m = mixL l k := by
  refine List.ext_getElem (by simp [mixL]) fun j h1 h2 => ?_
  rw [mix_len] at h1
  simp only [mixL, List.getElem_mapIdx]
  by_cases hj : j < k
  · rw [if_pos hj, if_pos (by omega)]
  · rw [if_neg hj]
    by_cases hm : j < m
    · rw [if_pos hm, h j h1 (by omega) hm]
    · rw [if_neg hm]
/-- how small stands -/
structure SmallSt (w : World) (l : List UInt8) (k : Nat) (wr : World) : Prop where
  le : k ≤ l.length
  it : wr.heap[w.heap.size + 1]? = some (.stringIter (strOf l) k)
  row : BRow wr w.heap.size (mixL l k)
  below : Below w.heap.size w wr
theorem SmallSt.next {w wr : World} {l : List UInt8} {k : Nat} (h : SmallSt w l k wr) (m : Nat) (hm : m ≤ l.length) : (wr.iterAt (w.heap.size + 1) (strOf l) m).heap[w.heap.size + 1]? = some (.stringIter (strOf l) m) ∧ BRow (wr.iterAt (w.heap.size + 1) (strOf l) m) w.heap.size (mixL l k) ∧ Below w.heap.size w (wr.iterAt (w.heap.size + 1) (strOf l) m) :=
  ⟨Lib.iterAt_heap wr _ _ k m h.it, h.row.block (Lib.iterAt_other wr _ _ _ _ (by omega)), Lib.below_iterAt h.below (by omega) _ _⟩
set_option maxRecDepth 8000 in
set_option maxHeartbeats 2000000 in
theorem small_any (l : List UInt8) (w : World) (hl : l.length ≤ 1000000) :
    Calls Tryd.prog 65 #[.string (strOf l)] w fun e w' => e = .returned (.string (strOf (smallL l))) ∧ Below w.heap.size w w' := by
  have HSZ := hideIt (strOf_size l)
  obtain ⟨c, w1, hcv, hrow, hbel, hwz, hc1, hc2⟩ := conv_row w l hl
  have HALL := hideIt (mix_all l)
  have S0 : Hid (SmallSt w l 0 (w1.iter (strOf l) 0)) := hideIt ⟨Nat.zero_le _, by rw [← hwz]; exact iter_alloc w1 _ _, by rw [mix_zero]; exact hrow.keep (below_iter w1 _ _) (by rw [hwz]; omega), below_then hbel (below_iter w1 _ _)⟩
  have HWZ := hideIt hwz
  have hcv' : ∀ u, u = w → (convert 9 23 (.string (strOf l))).run Tryd.prog u = .ok (.slice (some ⟨w.heap.size, 0, none⟩) l.length c) w1 := fun u hu => by rw [hu]; exact hcv
  clear hrow hbel hcv'
  obtain ⟨RR, hRR⟩ : ∃ R, strOf (smallL l) = R := ⟨_, rfl⟩
  rw [hRR]
  have HRR := hideIt hRR
  clear hRR
  go_enter Tryd.func65, Tryd.ntmps65
  go_wp2
  clear hwz
  go_loopw [] (fun wr => ∃ k : Nat, SmallSt w l k wr) (fun wr => l.length - wr.iterPos (w.heap.size + 1))
  case atStart => exact ⟨0, S0.out⟩
  case round =>
    obtain ⟨k, hst⟩ := hrel
    have ST := hideIt hst
    have hk := hst.le
    clear hst S0 hcv
    by_cases hkl : k < l.length
    · have hks : k < (strOf l).size := by have := HSZ.out; omega
      have hstep := step_le l k hkl
      have hpos := wd_pos (l.drop k)
      obtain ⟨n1, n2, n3⟩ := ST.out.next (k + wd (l.drop k)) hstep
      have I2 := hideIt n1
      have R2 := hideIt n2
      have B2 := hideIt n3
      have hnx : ∀ ty, (Instr.next (.pointer (some ⟨w.heap.size + 1, 0, none⟩)) true ty).run Tryd.prog wr = .ok (.tuple #[.bool true, .int .i64 (k : Int), .int .i32 ((dec (l.drop k)).1 : Int)]) (wr.iterAt (w.heap.size + 1) (strOf l) (k + wd (l.drop k))) := fun ty => by
        have := Lib.run_next_any_at (P := Tryd.prog) wr (w.heap.size + 1) (strOf l) k ty ST.out.it hks
        rw [decode_strOf] at this
        exact this
      have M1 := hideIt (iterAt_pos wr _ _ _ ST.out.it)
      clear n1 n2 n3
      generalize wr.iterAt (w.heap.size + 1) (strOf l) (k + wd (l.drop k)) = w2 at *
      by_cases hasc : (l[k]).toNat < 128
      · have hd := dec_low (l.drop k) (by rw [at4_dropget l k hkl]; exact hasc)
        rw [at4_dropget l k hkl] at hd
        have hwd : wd (l.drop k) = 1 := by rw [wd, hd]
        rw [hd] at hnx
        rw [hwd] at hstep I2
        have HC := hideIt (contains_ascii bigSigns (l[k]).toNat w2 hasc)
        rw [UInt8.ofNat_toNat] at HC
        cases hb : bigSigns.contains l[k]
        · rw [hb] at HC
          have hs : smallB l[k] = l[k] := by rw [smallB, hb]; rfl
          have hmx : mixL l (k + 1) = mixL l k := mix_same l k (k + 1) (by omega) fun j hj h1 h2 => by
            obtain rfl : j = k := by omega
            exact hs
          have ST2 : Hid (SmallSt w l (k + 1) w2) := hideIt ⟨hstep, I2.out, by rw [hmx]; exact R2.out, B2.out⟩
          have M2 := hideIt (iterAt_pos w2 _ _ _ I2.out)
          clear hs hmx hb hd hwd hasc I2 R2 B2
          simp only at hnx
          generalize (l[k]).toNat = u at *
          go_wp2_with fail
          refine HC.out.mono ?_
          rintro e w3 ⟨rfl, rfl⟩
          go_wp2_with fail
          go_roundw
          case rel => exact ⟨k + 1, ST2.out⟩
          case measure => rw [M1.out, M2.out]; omega
        · rw [hb] at HC
          have hs : smallB l[k] = l[k] + 32 := by rw [smallB, hb]; rfl
          have hle : (l[k]).toNat ≤ 90 := by
            have : ∀ x ∈ bigSigns, x.toNat ≤ 90 := by decide +kernel
            exact this _ (by simpa using hb)
          have hs2 : (smallB l[k]).toNat = (l[k]).toNat + 32 := by rw [hs, UInt8.toNat_add]; show ((l[k]).toNat + 32) % 256 = _; omega
          have hcl : w2.cell? ⟨w.heap.size, k, none⟩ = some (.int .u8 ((l[k]).toNat : Int)) := by
            have := R2.out.cell k (by rw [mix_len]; exact hkl)
            rwa [mix_at l k hkl] at this
          have hfz := R2.out.unfrozen k (by rw [mix_len]; exact hkl)
          have rs := R2.out.set k (smallB l[k])
          rw [mix_set l k hkl, hs2] at rs
          have ST2 : Hid (SmallSt w l (k + 1) (w2.setCell ⟨w.heap.size, k, none⟩ (.int .u8 (((l[k]).toNat + 32 : Nat) : Int)))) := hideIt ⟨hstep, (Below.heap_setCell w2 _ _ _ (by simp)).trans I2.out, rs, B2.out.setCell (Nat.le_refl _) _⟩
          have M2 := hideIt (iterAt_pos _ _ _ _ ST2.out.it)
          have hwr : IntKind.u8.wrap (((l[k]).toNat : Int) + 32) = (((l[k]).toNat + 32 : Nat) : Int) := by rw [IntKind.wrap_u8']; omega
          have hkc : (k : Int) < (l.length : Int) := by omega
          clear hs hs2 hb hd hwd hasc I2 R2 B2 rs hle
          simp only at hnx
          generalize (l[k]).toNat = u at *
          obtain ⟨y, hy⟩ : ∃ y : Int, ((u + 32 : Nat) : Int) = y := ⟨_, rfl⟩
          rw [hy] at ST2 M2 hwr
          clear hy
          go_wp2_with fail
          refine HC.out.mono ?_
          rintro e w3 ⟨rfl, rfl⟩
          go_wp2_with fail
          go_roundw
          case rel => exact ⟨k + 1, ST2.out⟩
          case measure => rw [M1.out, M2.out]; omega
      · have h8 : 128 ≤ (l[k]).toNat := by omega
        obtain ⟨d1, d2, d3⟩ := dec_high (l.drop k) (by rw [at4_dropget l k hkl]; exact h8)
        have HC := hideIt (contains_high bigSigns (dec (l.drop k)).1 w2 bigSigns_lt (by rw [bigSigns_len]; omega) (by rw [bigSigns_len]; omega) d1 d2 d3)
        have hms : Hid (mixL l (k + wd (l.drop k)) = mixL l k) := hideIt (mix_same l k _ (by omega) fun j hj h1 h2 => small_high _ (chunk_at l k hkl h8 j h1 h2 hj))
        clear d1 d2 d3 h8 hasc
        generalize (dec (l.drop k)).1 = u at *
        generalize wd (l.drop k) = k2 at *
        go_wp2_with fail
        refine HC.out.mono ?_
        rintro e w3 ⟨rfl, hb3⟩
        have hI : w.heap.size + 1 < w2.heap.size := (Array.getElem?_eq_some_iff.1 I2.out).1
        have ST2 : Hid (SmallSt w l (k + k2) w3) := hideIt ⟨hstep, (hb3.block _ hI).trans I2.out, by rw [hms.out]; exact R2.out.keep hb3 (by omega), below_then B2.out hb3⟩
        have M2 := hideIt (iterAt_pos _ _ _ _ ST2.out.it)
        clear hb3 hI I2 R2 B2 hms
        go_wp2_with fail
        go_roundw
        case rel => exact ⟨k + k2, ST2.out⟩
        case measure => rw [M1.out, M2.out]; omega
    · obtain rfl : k = l.length := by omega
      have hnx : ∀ ty, (Instr.next (.pointer (some ⟨w.heap.size + 1, 0, none⟩)) true ty).run Tryd.prog wr = .ok (.tuple #[.bool false]) wr := fun ty => Lib.run_next_end_at (P := Tryd.prog) wr (w.heap.size + 1) (strOf l) l.length ty ST.out.it (by rw [HSZ.out]; omega)
      have hcb := conv_bytes (some ⟨w.heap.size, 0, none⟩) (mixL l l.length) l.length c wr.heap.size wr ST.out.row.bytes (mix_len l _)
      rw [HALL.out, HRR.out] at hcb
      have HB := hideIt ST.out.below
      clear ST
      go_wp2_with fail
      go_ret
      exact ⟨rfl, HB.out⟩
theorem go_small : goFn Tryd.prog 65 = true := by kernel_rfl
set_option maxHeartbeats 2000000 in
theorem same_any (a b : List UInt8) (w : World) (hl : a.length = b.length → a.length ≤ 1000000) (ha : a.length ≤ 140737488355328) (hb : b.length ≤ 140737488355328) :
    Calls Tryd.prog 54 #[.string (strOf a), .string (strOf b)] w fun e w' => e = .returned (.bool (sameL a b)) ∧ Below w.heap.size w w' := by
  have z1 := strOf_size a
  have z2 := strOf_size b
  by_cases h : a.length = b.length
  · have h1 := hl h
    have HA := hideIt (fun w => small_any a w h1)
    have HB := hideIt (fun w => small_any b w (by omega))
    have hi : ((a.length : Int) == (b.length : Int)) = true := by rw [beq_iff_eq]; omega
    have E : Hid (((strOf (smallL a)).toList == (strOf (smallL b)).toList) = sameL a b) := hideIt (by
      rw [strOf_toList, strOf_toList, sameL]
      by_cases h : smallL a = smallL b
      · simp [h]
      · simp [h])
    obtain ⟨RR, hRR⟩ : ∃ R, sameL a b = R := ⟨_, rfl⟩
    rw [hRR] at E ⊢
    clear hRR h h1 hl
    generalize strOf (smallL a) = sa at *
    generalize strOf (smallL b) = sb at *
    go_enter Tryd.func54, Tryd.ntmps54
    go_wp2_with fail
    refine (HA.out _).mono ?_
    rintro e w1 ⟨rfl, hb1⟩
    have B1 := hideIt hb1
    clear hb1 HA
    go_wp2_with fail
    refine (HB.out _).mono ?_
    rintro e w2 ⟨rfl, hb2⟩
    have B2 := hideIt (below_then B1.out hb2)
    clear hb2 HB B1
    go_wp2_with fail
    go_ret
    refine ⟨?_, B2.out⟩
    rw [← E.out]; rfl
  · have hi : ((a.length : Int) == (b.length : Int)) = false := by rw [beq_eq_false_iff_ne]; omega
    rw [same_len h]
    clear h hl
    go_enter Tryd.func54, Tryd.ntmps54
    go_wp2_with fail
    go_ret
    exact ⟨rfl, Below.refl _ _⟩
theorem go_same : goFn Tryd.prog 54 = true := by kernel_rfl
end Go.Proofs.YtjfmlfakdijfjaaDoor
