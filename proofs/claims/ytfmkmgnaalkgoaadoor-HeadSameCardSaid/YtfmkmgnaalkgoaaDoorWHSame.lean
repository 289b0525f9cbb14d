/- The walk of HeadSame. -/
import Derived.Test.YtfmkmgnaalkgoaaDoorHeadKnown
import Derived.Test.YtfmkmgnaalkgoaaDoorHeadPick
import Derived.Test.YtfmkmgnaalkgoaaDoorOpenBools
import Derived.Test.YtfmkmgnaalkgoaaDoorUtfLaid
namespace Go.Proofs.YtfmkmgnaalkgoaaDoor
open Go.ChangeShapes Go.WideShapes Go.ChangeAt Go.RowKit
set_option linter.unusedVariables false
set_option linter.unusedSimpArgs false

/-- some letters made great, up to a place -/
def upL (l : List UInt8) (gs : List Bool) (k : Nat) : List UInt8 := l.mapIdx fun j c => if j < k ∧ gs.getD j false = true then c - 32 else c
theorem up_len (l : List UInt8) (gs : List Bool) (k : Nat) : (upL l gs k).length = l.length := by simp [upL]
theorem up_zero (l : List UInt8) (gs : List Bool) : upL l gs 0 = l := by
  refine List.ext_getElem (by simp [upL]) fun j h1 h2 => ?_
  simp [upL]
theorem up_at (l : List UInt8) (gs : List Bool) (k : Nat) (hk : k < l.length) : (upL l gs k)[k]'(by rw [up_len]; exact hk) = l[k] := by simp [upL]
theorem up_set (l : List UInt8) (gs : List Bool) (k : Nat) (hk : k < l.length) (hg : gs.getD k false = true) : (upL l gs k).set k (l[k] - 32) = upL l gs (k + 1) := by
  refine List.ext_getElem (by simp [upL]) fun j h1 h2 => ?_
  rw [List.getElem_set]
  by_cases h : k = j
  · subst h
    rw [if_pos rfl]
    simp only [upL, List.getElem_mapIdx]
    rw [if_pos ⟨by omega, hg⟩]
  · rw [if_neg h]
    simp only [upL, List.getElem_mapIdx]
    by_cases hj : j < k ∧ gs.getD j false = true
    · rw [if_pos hj, if_pos ⟨by omega, hj.2⟩]
    · rw [if_neg hj, if_neg (fun h3 => hj ⟨by omega, h3.2⟩)]
theorem up_same (l : List UInt8) (gs : List Bool) (k : Nat) (hg : gs.getD k false = false) : upL l gs (k + 1) = upL l gs k := by
  refine List.ext_getElem (by simp [upL]) fun j h1 h2 => ?_
  simp only [upL, List.getElem_mapIdx]
  by_cases hj : j < k ∧ gs.getD j false = true
  · rw [if_pos hj, if_pos ⟨by omega, hj.2⟩]
  · rw [if_neg hj, if_neg (fun h3 => ?_)]
    rcases Nat.lt_or_ge j k with h4 | h4
    · exact hj ⟨h4, h3.2⟩
    · obtain rfl : j = k := by omega
      rw [hg] at h3; exact absurd h3.2 (by decide)
theorem letter_facts (c : UInt8) (h : 97 ≤ c.toNat ∧ c.toNat ≤ 122) : smallB c = c ∧ smallB (c - 32) = c ∧ tokB c = true ∧ tokB (c - 32) = true ∧ (c - 32).toNat = c.toNat - 32 := by
  revert h
  refine each_byte (p := fun c => 97 ≤ c.toNat ∧ c.toNat ≤ 122 → smallB c = c ∧ smallB (c - 32) = c ∧ tokB c = true ∧ tokB (c - 32) = true ∧ (c - 32).toNat = c.toNat - 32) ?_ c
  decide +kernel
theorem small_low (l : List UInt8) (h : ∀ c ∈ l, 97 ≤ c.toNat ∧ c.toNat ≤ 122) : smallL l = l := by
  refine List.ext_getElem (by simp [smallL]) fun j h1 h2 => ?_
  simp only [smallL, List.getElem_map]
  exact (letter_facts _ (h _ (List.getElem_mem h2))).1
theorem small_up (l : List UInt8) (gs : List Bool) (k : Nat) (h : ∀ c ∈ l, 97 ≤ c.toNat ∧ c.toNat ≤ 122) : smallL (upL l gs k) = l := by
  refine List.ext_getElem (by simp [smallL, upL]) fun j h1 h2 => ?_
  have hf := letter_facts _ (h _ (List.getElem_mem h2))
  simp only [smallL, upL, List.getElem_map, List.getElem_mapIdx]
  split
  · exact hf.2.1
  · exact hf.1
theorem tok_up (l : List UInt8) (gs : List Bool) (k : Nat) (h : ∀ c ∈ l, 97 ≤ c.toNat ∧ c.toNat ≤ 122) (hl : 1 ≤ l.length) : tokenL (upL l gs k) = true := by
  have h1 : (upL l gs k).all tokB = true := List.all_eq_true.2 fun c hc => by
    obtain ⟨j, hj, rfl⟩ := List.mem_iff_getElem.1 hc
    rw [up_len] at hj
    have hf := letter_facts _ (h _ (List.getElem_mem hj))
    simp only [upL, List.getElem_mapIdx]
    split
    · exact hf.2.2.2.1
    · exact hf.2.2.1
  have h2 : upL l gs k ≠ [] := fun e => by
    have := up_len l gs k
    rw [e] at this
    simp at this; omega
  rw [tokenL, h1, decide_eq_true h2]; rfl
theorem same_dash (l T : List UInt8) (q : Nat) (hq : q < l.length) (h : ∀ c ∈ l, 97 ≤ c.toNat ∧ c.toNat ≤ 122) (hT : T.length = l.length) : sameL l (T.set q 45) = false := by
  refine decide_eq_false fun e => ?_
  have h1 : (smallL l)[q]? = (smallL (T.set q 45))[q]? := by rw [e]
  rw [small_low l h, smallL, List.getElem?_map, List.getElem?_set_self (by omega), List.getElem?_eq_getElem hq] at h1
  have h2 : l[q] = smallB 45 := by simpa using h1
  have h3 := h _ (List.getElem_mem hq)
  rw [h2, show smallB 45 = 45 by decide +kernel] at h3
  exact absurd h3.1 (by decide)
set_option maxRecDepth 8000 in
set_option maxHeartbeats 4000000 in
theorem headSame_walk (a0 : Option Addr) (len0 cap0 : Nat) (z0 : List Int) (a1 : Option Addr) (len1 cap1 : Nat) (x1 : List Bool) (a2 : Int) (w : World) (w0 : IsRow .u8 w a0 len0 cap0 z0) (w1 : IsBools w a1 len1 cap1 x1) (w2 : (Lit.int .u8 a2).wf = true) (hT : Tabs w) (r0 : cap0 ≤ 140737488355328) :
    Calls Tryd.prog 6 #[.slice a0 len0 cap0, .slice a1 len1 cap1, .int .u8 a2] w fun e w' => e = .returned (.bool true) ∧ Below w.heap.size w w' := by
  have hi2 := bounds_u8 w2
  obtain ⟨_, _, hlc0, _⟩ := w0.bytes
  obtain ⟨bs0, hl0, _, hp0⟩ := row_piece w0 (by omega)
  have HW := hideIt (word_any a0 bs0 len0 cap0 w hp0 hl0 (by omega))
  have hsm := wordL_mem bs0
  have hsl := wordL_len bs0
  generalize wordL bs0 = s at *
  obtain ⟨hg1, hg2, hg3⟩ := w1
  have HG := hideIt hg2
  have HGN := hideIt hg1
  obtain ⟨l, hl⟩ : ∃ l, 120 :: s = l := ⟨_, rfl⟩
  have ES : Hid ((⟨#[120]⟩ : ByteArray) ++ strOf s = strOf l) := hideIt (by rw [← hl, show (⟨#[120]⟩ : ByteArray) = strOf [120] from rfl, strOf_append]; rfl)
  have HLM : Hid (∀ c ∈ l, 97 ≤ c.toNat ∧ c.toNat ≤ 122) := hideIt (by
    rw [← hl]
    intro c hc
    rcases List.mem_cons.1 hc with rfl | hc
    · decide
    · exact hsm c hc)
  have hn1 : 1 ≤ l.length := by rw [← hl]; simp
  have hn2 : l.length ≤ 31 := by rw [← hl]; simp; omega
  have z0 : (strOf s).size ≤ 30 := by rw [strOf_size]; exact hsl
  obtain ⟨x, rfl, hx⟩ : ∃ x : Nat, a2 = (x : Int) ∧ x < 256 := ⟨a2.toNat, by omega, by omega⟩
  have hq : x % l.length < l.length := Nat.mod_lt _ (by omega)
  have hmod : Int.tmod (x : Int) (l.length : Int) = ((x % l.length : Nat) : Int) := by rw [Int.tmod_eq_emod_of_nonneg (by omega)]; rfl
  have HK := hideIt known8_any
  have HSS : Hid (∀ w, Calls Tryd.prog 22 #[.string (⟨#[120]⟩ ++ strOf s), .string (⟨#[120]⟩ ++ strOf s)] w fun e w' => e = .returned (.bool true) ∧ Below w.heap.size w w') := hideIt fun w => by
    have := same_any l l w (by omega) (by omega) (by omega)
    rw [ES.out]
    rwa [show sameL l l = true by simp [sameL]] at this
  clear w0 w2 hT hi2 hp0 hl0 hlc0 r0 hsm hsl hl hg1 hg2
  go_enter Tryd.func6, Tryd.ntmps6
  go_wp2_with fail
  refine HW.out.mono ?_
  rintro e u1 ⟨rfl, hb⟩
  obtain ⟨c, u2, hcv, hrow, hbel, hwz, hc1, hc2⟩ := conv_row u1 l (by omega)
  rw [← ES.out] at hcv
  have B2 := hideIt (below_then hb hbel)
  have R2 : Hid (BRow u2 u1.heap.size (upL l x1 0)) := hideIt (by rw [up_zero]; exact hrow)
  have S1 := hideIt hb.size
  clear hb hbel hwz hrow HW
  generalize strOf s = ss at *
  go_wp2_with fail
  clear hcv
  generalize u1.heap.size = g at *
  go_loopw [9] (fun i wr => ∃ j : Nat, j ≤ l.length ∧ i = .int .i64 (j : Int) ∧ BRow wr g (upL l x1 j) ∧ Below w.heap.size w wr) (fun i wr => l.length - (intOf i).toNat)
  case atStart => exact ⟨0, by omega, rfl, R2.out, B2.out⟩
  case round =>
    obtain ⟨j, hj, rfl, hr, hb⟩ := hrel
    have HR := hideIt hr
    have HB := hideIt hb
    clear hr hb R2 B2
    by_cases hgo : j < l.length ∧ j < len1
    · obtain ⟨h1, h2⟩ := hgo
      have h1' : (j : Int) < (l.length : Int) := by omega
      have h2' : (j : Int) < (len1 : Int) := by omega
      have hwj : IntKind.i64.wrap ((j : Int) + 1) = (j : Int) + 1 := IntWalk.i64_in _ (by omega)
      obtain ⟨b, off, rfl, _, hbl, hcells⟩ := HG.out (by rw [List.length_map, HGN.out]; omega)
      have hjx : j < x1.length := by rw [HGN.out]; exact h2
      have hcg : wr.cell? ⟨b, off + j, none⟩ = some (.bool (x1.getD j false)) := by
        have := hcells j (by rw [List.length_map]; exact hjx)
        rw [(HB.out.cell (p := ⟨b, off + j, none⟩) hbl), this, List.getElem_map]
        simp [List.getD, hjx]
      have hcr : wr.cell? ⟨g, j, none⟩ = some (.int .u8 ((l[j]).toNat : Int)) := by
        have := HR.out.cell j (by rw [up_len]; exact h1)
        rwa [up_at l x1 j h1] at this
      have hfr := HR.out.unfrozen j (by rw [up_len]; exact h1)
      have hlf := letter_facts _ (HLM.out _ (List.getElem_mem h1))
      have hle := HLM.out _ (List.getElem_mem h1)
      clear hcells
      cases hgj : x1.getD j false
      · rw [hgj] at hcg
        have RN : Hid (BRow wr g (upL l x1 (j + 1))) := hideIt (by rw [up_same l x1 j hgj]; exact HR.out)
        clear hgj hlf hle
        go_wp2_with fail
        go_roundw
        case rel => exact ⟨j + 1, by omega, by go_num, RN.out, HB.out⟩
        case measure => simp [intOf]; omega
      · rw [hgj] at hcg
        have rs := HR.out.set j (l[j] - 32)
        rw [up_set l x1 j h1 hgj, hlf.2.2.2.2] at rs
        obtain ⟨y, hy⟩ : ∃ y : Int, (((l[j]).toNat - 32 : Nat) : Int) = y := ⟨_, rfl⟩
        rw [hy] at rs
        have RN := hideIt rs
        have BN : Hid (Below w.heap.size w (wr.setCell ⟨g, j, none⟩ (.int .u8 y))) := hideIt (HB.out.setCell (by exact S1.out) _)
        have hwy : IntKind.u8.wrap (((l[j]).toNat : Int) - 32) = y := by rw [← hy, IntKind.wrap_u8']; omega
        clear hgj hlf hle rs hy HR HB
        generalize (l[j]).toNat = v at *
        go_wp2_with fail
        go_roundw
        case rel => exact ⟨j + 1, by omega, by go_num, RN.out, BN.out⟩
        case measure => simp [intOf]; omega
    · obtain ⟨T, hT⟩ : ∃ T, upL l x1 j = T := ⟨_, rfl⟩
      have hTl : T.length = l.length := by rw [← hT, up_len]
      have hTs : smallL T = l := by rw [← hT]; exact small_up l x1 j HLM.out
      have hTt : tokenL T = true := by rw [← hT]; exact tok_up l x1 j HLM.out hn1
      rw [hT] at HR
      have hls := small_low l HLM.out
      have HS1 : Hid (∀ w, Calls Tryd.prog 22 #[.string (⟨#[120]⟩ ++ ss), .string (strOf T)] w fun e w' => e = .returned (.bool true) ∧ Below w.heap.size w w') := hideIt fun w => by
        have := same_any l T w (by omega) (by omega) (by omega)
        rw [ES.out]
        rwa [show sameL l T = true from decide_eq_true (by rw [hTs, hls])] at this
      have HS2 : Hid (∀ w, Calls Tryd.prog 22 #[.string (strOf T), .string (⟨#[120]⟩ ++ ss)] w fun e w' => e = .returned (.bool true) ∧ Below w.heap.size w w') := hideIt fun w => by
        have := same_any T l w (by omega) (by omega) (by omega)
        rw [ES.out]
        rwa [show sameL T l = true from decide_eq_true (by rw [hTs, hls])] at this
      have HS4 : Hid (∀ w, Calls Tryd.prog 22 #[.string (⟨#[120]⟩ ++ ss), .string (strOf T ++ ⟨#[120]⟩)] w fun e w' => e = .returned (.bool false) ∧ Below w.heap.size w w') := hideIt fun w => by
        have := same_any l (T ++ [120]) w (by simp; omega) (by omega) (by simp; omega)
        rw [ES.out, show (⟨#[120]⟩ : ByteArray) = strOf [120] from rfl, strOf_append]
        rwa [same_len (a := l) (b := T ++ [120]) (by simp; omega)] at this
      have HS5 : Hid (∀ w, Calls Tryd.prog 22 #[.string (⟨#[120]⟩ ++ ss), .string (strOf (T.set (x % l.length) 45))] w fun e w' => e = .returned (.bool false) ∧ Below w.heap.size w w') := hideIt fun w => by
        have := same_any l (T.set (x % l.length) 45) w (by simp; omega) (by omega) (by simp; omega)
        rw [ES.out]
        rwa [same_dash l T _ hq HLM.out hTl] at this
      have HTK : Hid (∀ w, Calls Tryd.prog 23 #[.string (strOf T)] w fun e w' => e = .returned (.bool true) ∧ Below w.heap.size w w') := hideIt fun w => by
        have := token_any T w (by omega)
        rwa [hTt] at this
      have hcb := conv_bytes (some ⟨g, 0, none⟩) T l.length c wr.heap.size wr HR.out.bytes hTl
      obtain ⟨q, hqq⟩ : ∃ q, x % l.length = q := ⟨_, rfl⟩
      rw [hqq] at hq hmod HS5
      have hq' : (q : Int) < (l.length : Int) := by omega
      obtain ⟨y5, hcq⟩ : ∃ y : Int, wr.cell? ⟨g, q, none⟩ = some (.int .u8 y) := ⟨_, HR.out.cell q (by rw [hTl]; exact hq)⟩
      have hfq := HR.out.unfrozen q (by rw [hTl]; exact hq)
      have rs := HR.out.set q 45
      have R3 : Hid (BRow (wr.setCell ⟨g, q, none⟩ (.int .u8 45)) g (T.set q 45)) := hideIt rs
      have B3 : Hid (Below w.heap.size w (wr.setCell ⟨g, q, none⟩ (.int .u8 45))) := hideIt (HB.out.setCell (by exact S1.out) _)
      have z1 : (strOf T).size ≤ 31 := by rw [strOf_size]; omega
      have HTL2 : Hid ((T.set q 45).length = l.length) := hideIt (by rw [List.length_set]; exact hTl)
      have hgo2 : ((j : Int) < (l.length : Int)) ∧ ¬ ((j : Int) < (len1 : Int)) ∨ ¬ ((j : Int) < (l.length : Int)) := by omega
      have hwx : IntKind.i64.wrap (x : Int) = (x : Int) := IntWalk.i64_in _ (by omega)
      clear hT hTl hTs hTt hls HR HB rs hgo hqq HLM HG HGN S1
      generalize strOf T = tt at *
      obtain ⟨t5, ht5⟩ : ∃ t5, strOf (T.set q 45) = t5 := ⟨_, rfl⟩
      rw [ht5] at HS5
      have E5 := hideIt ht5
      clear ht5
      rcases hgo2 with ⟨k1, k2⟩ | k1
      all_goals
        go_wp2_with fail
        refine (HK.out _).mono ?_
        rintro e u3 ⟨rfl, hb⟩
        have R4 := hideIt (R3.out.keep hb R3.out.lt)
        have B4 := hideIt (below_then B3.out hb)
        clear hb HK R3 B3 hcb hcq hfq
        go_wp2_with fail
        refine (HS1.out _).mono ?_
        rintro e u4 ⟨rfl, hb⟩
        have R5 := hideIt (R4.out.keep hb R4.out.lt)
        have B5 := hideIt (below_then B4.out hb)
        clear hb HS1 R4 B4
        go_wp2_with fail
        refine (HS2.out _).mono ?_
        rintro e u5 ⟨rfl, hb⟩
        have R6 := hideIt (R5.out.keep hb R5.out.lt)
        have B6 := hideIt (below_then B5.out hb)
        clear hb HS2 R5 B5
        go_wp2_with fail
        refine (HSS.out _).mono ?_
        rintro e u6 ⟨rfl, hb⟩
        have R7 := hideIt (R6.out.keep hb R6.out.lt)
        have B7 := hideIt (below_then B6.out hb)
        clear hb HSS R6 B6
        go_wp2_with fail
        refine (HS4.out _).mono ?_
        rintro e u7 ⟨rfl, hb⟩
        have R8 := hideIt (R7.out.keep hb R7.out.lt)
        have B8 := hideIt (below_then B7.out hb)
        clear hb HS4 R7 B7
        have hcb2 := conv_bytes (some ⟨g, 0, none⟩) (T.set q 45) l.length c u7.heap.size u7 R8.out.bytes HTL2.out
        rw [E5.out] at hcb2
        go_wp2_with fail
        refine (HS5.out _).mono ?_
        rintro e u8 ⟨rfl, hb⟩
        have B9 := hideIt (below_then B8.out hb)
        clear hb HS5 R8 B8 hcb2
        go_wp2_with fail
        refine (HTK.out _).mono ?_
        rintro e u9 ⟨rfl, hb⟩
        have B10 := hideIt (below_then B9.out hb)
        clear hb HTK B9
        go_wp2_with fail
        go_ret
        exact ⟨rfl, B10.out⟩
end Go.Proofs.YtfmkmgnaalkgoaaDoor
