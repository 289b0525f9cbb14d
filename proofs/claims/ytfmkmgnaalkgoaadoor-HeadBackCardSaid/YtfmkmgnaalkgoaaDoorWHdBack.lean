/- The walk of HeadBack. -/
import Derived.Test.YtfmkmgnaalkgoaaDoorHeadKnown
import Derived.Test.YtfmkmgnaalkgoaaDoorHeadPick
import Derived.Test.YtfmkmgnaalkgoaaDoorPairTwo
import Derived.Test.YtfmkmgnaalkgoaaDoorStrRun
import Derived.Test.YtfmkmgnaalkgoaaDoorUtfLaid
namespace Go.Proofs.YtfmkmgnaalkgoaaDoor
open Go.ChangeShapes Go.WideShapes Go.ChangeAt Go.RowKit
set_option linter.unusedVariables false
set_option linter.unusedSimpArgs false

theorem lowB_facts (c : UInt8) (h : 97 ≤ c.toNat ∧ c.toNat ≤ 122) : tokB c = true ∧ valB c = true ∧ blankB c = false ∧ c ≠ 58 := by
  revert h
  refine each_byte (p := fun c => 97 ≤ c.toNat ∧ c.toNat ≤ 122 → tokB c = true ∧ valB c = true ∧ blankB c = false ∧ c ≠ 58) ?_ c
  decide +kernel
def xname (s : List UInt8) : List UInt8 := [88, 45] ++ s
theorem xname_tok (s : List UInt8) (h : ∀ c ∈ s, 97 ≤ c.toNat ∧ c.toNat ≤ 122) : tokenL (xname s) = true := by
  have h1 : (xname s).all tokB = true := by
    rw [xname, List.all_append]
    have : s.all tokB = true := List.all_eq_true.2 fun c hc => (lowB_facts c (h c hc)).1
    rw [this]; decide +kernel
  rw [tokenL, h1, decide_eq_true (by simp [xname])]; rfl
theorem xname_colon (s : List UInt8) (h : ∀ c ∈ s, 97 ≤ c.toNat ∧ c.toNat ≤ 122) : ∀ c ∈ xname s, c ≠ 58 := fun c hc => by
  rcases List.mem_append.1 hc with hc | hc
  · simp at hc
    rcases hc with rfl | rfl <;> decide
  · exact (lowB_facts c (h c hc)).2.2.2
theorem low_ends (v : List UInt8) (h : ∀ c ∈ v, 97 ≤ c.toNat ∧ c.toNat ≤ 122) : v = [] ∨ endsB v := by
  cases v with
  | nil => exact .inl rfl
  | cons a r =>
    right
    refine ⟨⟨a, rfl, (lowB_facts a (h a (by simp))).2.2.1⟩, (a :: r).getLast (by simp), List.getLast?_eq_some_getLast (by simp), ?_⟩
    exact (lowB_facts _ (h _ (List.getLast_mem _))).2.2.1
theorem low_value (v : List UInt8) (h : ∀ c ∈ v, 97 ≤ c.toNat ∧ c.toNat ≤ 122) : valueL v = true := by
  have h1 : v.all valB = true := List.all_eq_true.2 fun c hc => (lowB_facts c (h c hc)).2.1
  rw [valueL, h1, decide_eq_true ((trim_fix v).2 (low_ends v h))]; rfl
theorem low_trim (v p q : List UInt8) (h : ∀ c ∈ v, 97 ≤ c.toNat ∧ c.toNat ≤ 122) (hp : ∀ c ∈ p, blankB c = true) (hq : ∀ c ∈ q, blankB c = true) : trimL (p ++ v ++ q) = v := by
  rcases low_ends v h with rfl | he
  · refine trim_all _ fun c hc => ?_
    simp only [List.append_nil, List.mem_append] at hc
    rcases hc with hc | hc
    · exact hp c hc
    · exact hq c hc
  · exact trim_mid p v q hp hq he
theorem okP_low (s v : List UInt8) (hs : ∀ c ∈ s, 97 ≤ c.toNat ∧ c.toNat ≤ 122) (hv : ∀ c ∈ v, 97 ≤ c.toNat ∧ c.toNat ≤ 122) : okP (xname s, v) = true := by
  rw [okP, xname_tok s hs, low_value v hv]; rfl
theorem field_low (s v p q : List UInt8) (hs : ∀ c ∈ s, 97 ≤ c.toNat ∧ c.toNat ≤ 122) (hv : ∀ c ∈ v, 97 ≤ c.toNat ∧ c.toNat ≤ 122) (hp : ∀ c ∈ p, blankB c = true) (hq : ∀ c ∈ q, blankB c = true) (hl : (xname s ++ 58 :: (p ++ v ++ q)).length ≤ 2000) :
    fieldL (xname s ++ 58 :: (p ++ v ++ q)) = ((xname s, v), 0) := by
  have h1 : nameL (xname s ++ 58 :: (p ++ v ++ q)) = xname s := name_app _ _ (xname_colon s hs)
  have h2 : restL (xname s ++ 58 :: (p ++ v ++ q)) = v := by rw [rest_app _ _ (xname_colon s hs), low_trim v p q hv hp hq]
  rw [fieldL, h1, h2, if_neg (by omega), if_pos (by simp), okP_low s v hs hv]; rfl
theorem print_low (s v : List UInt8) (hs : ∀ c ∈ s, 97 ≤ c.toNat ∧ c.toNat ≤ 122) (hv : ∀ c ∈ v, 97 ≤ c.toNat ∧ c.toNat ≤ 122) (hl : s.length + v.length ≤ 100) : printF (xname s, v) = (lineL (xname s, v), 0) := by
  have : (lineL (xname s, v)).length ≤ 2000 := by simp [lineL, xname]; omega
  rw [printF, okP_low s v hs hv, if_pos rfl, if_neg (by omega)]
/-- blanks, as the law lays them -/
def blks : Nat → List UInt8
  | 0 => []
  | j + 1 => blks j ++ [if j % 2 = 0 then 9 else 32]
theorem blks_len (j : Nat) : (blks j).length = j := by
  induction j with
  | zero => rfl
  | succ j ih => simp [blks, ih]
theorem blks_blank (j : Nat) : ∀ c ∈ blks j, blankB c = true := by
  induction j with
  | zero => simp [blks]
  | succ j ih =>
    intro c hc
    rcases List.mem_append.1 hc with h | h
    · exact ih c h
    · simp at h
      rw [h]
      split <;> decide
def sps (j : Nat) : List UInt8 := List.replicate j 32
theorem sps_len (j : Nat) : (sps j).length = j := by simp [sps]
theorem sps_blank (j : Nat) : ∀ c ∈ sps j, blankB c = true := fun c hc => by rw [(List.mem_replicate.1 hc).2]; decide
theorem sps_succ (j : Nat) : sps (j + 1) = sps j ++ [32] := by simp [sps, List.replicate_succ']
/-- the line, with blanks -/
def backL (s v : List UInt8) (b k : Nat) : List UInt8 := xname s ++ [58] ++ blks b ++ v ++ sps k
theorem backL_is (s v : List UInt8) (b k : Nat) : backL s v b k = xname s ++ 58 :: (blks b ++ v ++ sps k) := by simp [backL]
theorem strOf_cat3 (l : List UInt8) (x : List UInt8) : strOf l ++ strOf x = strOf (l ++ x) := strOf_append l x
theorem run_tabs (q : Nat) (h : q < 2) (w : World) : (Instr.slice 9 (.string ⟨#[9, 32]⟩) (some (.int .i64 (q : Int))) (some (.int .i64 ((q : Int) + 1))) none).run Tryd.prog w = .ok (.string (strOf [if q = 0 then 9 else 32])) w := by
  have := run_slice_str w [9, 32] (some (.int .i64 (q : Int))) (some (.int .i64 ((q + 1 : Nat) : Int))) .i64 .i64 q (q + 1) (.inr rfl) (.inr rfl) (by omega) (by simp; omega)
  rw [show ((q + 1 : Nat) : Int) = (q : Int) + 1 by omega] at this
  rcases (by omega : q = 0 ∨ q = 1) with rfl | rfl
  · exact this
  · exact this
set_option maxRecDepth 8000 in
set_option maxHeartbeats 8000000 in
theorem headBack_walk (a0 : Option Addr) (len0 cap0 : Nat) (z0 : List Int) (a1 : Option Addr) (len1 cap1 : Nat) (z1 : List Int) (a2 : Int) (a3 : Int) (w : World) (w0 : IsRow .u8 w a0 len0 cap0 z0) (w1 : IsRow .u8 w a1 len1 cap1 z1) (w2 : (Lit.int .u8 a2).wf = true) (w3 : (Lit.int .u8 a3).wf = true) (hT : Tabs w) (r0 : cap0 ≤ 140737488355328) (r1 : cap1 ≤ 140737488355328) :
    Calls Tryd.prog 5 #[.slice a0 len0 cap0, .slice a1 len1 cap1, .int .u8 a2, .int .u8 a3] w fun e w' => e = .returned (.bool true) ∧ Below w.heap.size w w' := by
  have hi2 := bounds_u8 w2
  have hi3 := bounds_u8 w3
  obtain ⟨_, _, hlc0, _⟩ := w0.bytes
  obtain ⟨bs0, hl0, _, hp0⟩ := row_piece w0 (by omega)
  obtain ⟨_, _, hlc1, _⟩ := w1.bytes
  obtain ⟨bs1, hl1, _, hp1⟩ := row_piece w1 (by omega)
  have HW0 := hideIt (word_any a0 bs0 len0 cap0 w hp0 hl0 (by omega))
  have HW1 : Hid (∀ w', Below w.heap.size w w' → Calls Tryd.prog 19 #[.slice a1 len1 cap1] w' fun e w'' => e = .returned (.string (strOf (wordL bs1))) ∧ Below w'.heap.size w' w'') := hideIt fun w' hb => word_any a1 bs1 len1 cap1 w' (hp1.keep hb) hl1 (by omega)
  have hs0 := wordL_mem bs0
  have hv0 := wordL_mem bs1
  have hsl := wordL_len bs0
  have hvl := wordL_len bs1
  generalize wordL bs0 = s at *
  generalize wordL bs1 = v at *
  obtain ⟨x, rfl, hx⟩ : ∃ x : Nat, a2 = (x : Int) ∧ x < 256 := ⟨a2.toNat, by omega, by omega⟩
  obtain ⟨y, rfl, hy⟩ : ∃ y : Nat, a3 = (y : Int) ∧ y < 256 := ⟨a3.toNat, by omega, by omega⟩
  have hmx : Int.tmod (x : Int) 5 = ((x % 5 : Nat) : Int) := by rw [Int.tmod_eq_emod_of_nonneg (by omega)]; omega
  have hmy : Int.tmod (y : Int) 5 = ((y % 5 : Nat) : Int) := by rw [Int.tmod_eq_emod_of_nonneg (by omega)]; omega
  have hb5 : x % 5 < 5 := Nat.mod_lt _ (by decide)
  have hk5 : y % 5 < 5 := Nat.mod_lt _ (by decide)
  generalize x % 5 = b at *
  generalize y % 5 = k at *
  have hwb : IntKind.u8.wrap (b : Int) = (b : Int) := by rw [IntKind.wrap_u8']; omega
  have hwk : IntKind.u8.wrap (k : Int) = (k : Int) := by rw [IntKind.wrap_u8']; omega
  have hwb2 : IntKind.i64.wrap (b : Int) = (b : Int) := IntWalk.i64_in _ (by omega)
  have hwk2 : IntKind.i64.wrap (k : Int) = (k : Int) := IntWalk.i64_in _ (by omega)
  have EN : Hid ((⟨#[88, 45]⟩ : ByteArray) ++ strOf s = strOf (xname s)) := hideIt (by rw [show (⟨#[88, 45]⟩ : ByteArray) = strOf [88, 45] from rfl, strOf_append]; rfl)
  have EL : Hid ((⟨#[88, 45]⟩ : ByteArray) ++ strOf s ++ ⟨#[58, 32]⟩ ++ strOf v = strOf (lineL (xname s, v))) := hideIt (by rw [EN.out]; exact line_str (xname s, v))
  have HPR : Hid (∀ w, Calls Tryd.prog 20 #[.agg #[.string (⟨#[88, 45]⟩ ++ strOf s), .string (strOf v)]] w fun e w' => e = .returned (.tuple #[.string (⟨#[88, 45]⟩ ++ strOf s ++ ⟨#[58, 32]⟩ ++ strOf v), .int .u16 0]) ∧ Below w.heap.size w w') := hideIt fun w => by
    have := print_any (xname s, v) w (by simp [xname]; omega) (by simp only; omega)
    rw [print_low s v hs0 hv0 (by omega)] at this
    rw [EL.out, EN.out]
    exact this
  have HF1 : Hid (∀ w, Calls Tryd.prog 21 #[.string (⟨#[88, 45]⟩ ++ strOf s ++ ⟨#[58, 32]⟩ ++ strOf v)] w fun e w' => e = .returned (.tuple #[.agg #[.string (⟨#[88, 45]⟩ ++ strOf s), .string (strOf v)], .int .u16 0]) ∧ Below w.heap.size w w') := hideIt fun w => by
    have hl : (lineL (xname s, v)).length ≤ 1000000 := by simp [lineL, xname]; omega
    have := field_any (lineL (xname s, v)) w hl
    have e : lineL (xname s, v) = xname s ++ 58 :: ([32] ++ v ++ []) := by simp [lineL]
    rw [EL.out, EN.out]
    rw [show fieldL (lineL (xname s, v)) = ((xname s, v), 0) by rw [e]; exact field_low s v [32] [] hs0 hv0 (by decide) (by simp) (by simp [xname]; omega)] at this
    exact this
  have HF2 : Hid (∀ w, Calls Tryd.prog 21 #[.string (strOf (backL s v b k))] w fun e w' => e = .returned (.tuple #[.agg #[.string (⟨#[88, 45]⟩ ++ strOf s), .string (strOf v)], .int .u16 0]) ∧ Below w.heap.size w w') := hideIt fun w => by
    have hl : (backL s v b k).length ≤ 1000 := by simp [backL, xname, blks_len, sps_len]; omega
    have := field_any (backL s v b k) w (by omega)
    rw [EN.out]
    rw [show fieldL (backL s v b k) = ((xname s, v), 0) by rw [backL_is]; exact field_low s v (blks b) (sps k) hs0 hv0 (blks_blank b) (sps_blank k) (by rw [← backL_is]; omega)] at this
    exact this
  have HK := hideIt known8_any
  have zs : (strOf s).size ≤ 30 := by rw [strOf_size]; exact hsl
  have zv : (strOf v).size ≤ 30 := by rw [strOf_size]; exact hvl
  have zz : ∀ i j, i ≤ 4 → j ≤ 4 → (strOf (backL s v i j)).size ≤ 200 ∧ (strOf (xname s ++ [58] ++ blks i)).size ≤ 200 := fun i j hi hj => by
    rw [strOf_size, strOf_size]
    simp [backL, xname, blks_len, sps_len]; omega
  have HZZ := hideIt zz
  have E0 : Hid ((⟨#[88, 45]⟩ : ByteArray) ++ strOf s ++ ⟨#[58]⟩ = strOf (xname s ++ [58] ++ blks 0)) := hideIt (by rw [EN.out, show (⟨#[58]⟩ : ByteArray) = strOf [58] from rfl, strOf_append]; simp [blks])
  have E1 : Hid (∀ j, strOf (xname s ++ [58] ++ blks j) ++ strOf [if j % 2 = 0 then 9 else 32] = strOf (xname s ++ [58] ++ blks (j + 1))) := hideIt fun j => by rw [strOf_append]; simp [blks]
  have E2 : Hid (strOf (xname s ++ [58] ++ blks b) ++ strOf v = strOf (backL s v b 0)) := hideIt (by rw [strOf_append]; simp [backL, sps])
  have E3 : Hid (∀ j, strOf (backL s v b j) ++ ⟨#[32]⟩ = strOf (backL s v b (j + 1))) := hideIt fun j => by rw [show (⟨#[32]⟩ : ByteArray) = strOf [32] from rfl, strOf_append]; simp [backL, sps_succ]
  have HTB := hideIt run_tabs
  clear w0 w1 w2 w3 hT hp0 hp1 hl0 hl1 hlc0 hlc1 r0 r1 hi2 hi3 hx hy zz EL EN
  have HS1 : Hid (∀ j, j ≤ 4 → ∃ t, strOf (xname s ++ [58] ++ blks j) = t) := hideIt fun j _ => ⟨_, rfl⟩
  go_enter Tryd.func5, Tryd.ntmps5
  go_wp2_with fail
  refine HW0.out.mono ?_
  rintro e u1 ⟨rfl, hb⟩
  have B1 := hideIt hb
  clear hb HW0
  go_wp2_with fail
  refine (HW1.out _ B1.out).mono ?_
  rintro e u2 ⟨rfl, hb⟩
  have B2 := hideIt (below_then B1.out hb)
  clear hb HW1 B1
  have T0 := hideIt (Two.new u2 (.string (⟨#[88, 45]⟩ ++ strOf s)) (.string (strOf v)) 23)
  have B3 := hideIt (below_then B2.out (below_new u2 (.cells #[.string (⟨#[88, 45]⟩ ++ strOf s), .string (strOf v)] 23)))
  clear B2
  go_wp2_with fail
  generalize u2.heap.size = g at *
  refine (HPR.out _).mono ?_
  rintro e u3 ⟨rfl, hb⟩
  have T1 := hideIt (T0.out.keep hb)
  have B4 := hideIt (below_then B3.out hb)
  have q0 := T1.out.c0
  have q1 := T1.out.c1
  clear hb HPR T0 B3
  go_wp2_with fail
  rw [E0.out]
  clear E0 HS1
  go_loopw [12, 13] (fun t i wr => ∃ j : Nat, j ≤ b ∧ i = .int .i64 (j : Int) ∧ t = .string (strOf (xname s ++ [58] ++ blks j)) ∧ wr = u3) (fun _ i _ => b - (intOf i).toNat)
  case atStart => exact ⟨0, by omega, rfl, rfl, rfl⟩
  case round =>
    obtain ⟨j, hj, rfl, rfl, rfl⟩ := hrel
    have zj := (HZZ.out j 0 (by omega) (by omega)).2
    have hwj : IntKind.i64.wrap ((j : Int) + 1) = (j : Int) + 1 := IntWalk.i64_in _ (by omega)
    by_cases hlt : j < b
    · have hlt' : (j : Int) < (b : Int) := by omega
      have hmod : Int.tmod (j : Int) 2 = ((j % 2 : Nat) : Int) := by rw [Int.tmod_eq_emod_of_nonneg (by omega)]; omega
      have hq2 : j % 2 < 2 := Nat.mod_lt _ (by decide)
      have hsl := fun w => HTB.out (j % 2) hq2 w
      have EJ := hideIt (E1.out j)
      have z1 : (strOf [if j % 2 = 0 then (9 : UInt8) else 32]).size ≤ 1 := by rw [strOf_size]; simp
      have hwq : IntKind.i64.wrap (((j % 2 : Nat) : Int) + 1) = ((j % 2 : Nat) : Int) + 1 := IntWalk.i64_in _ (by omega)
      have hwq2 : IntKind.i64.wrap ((j % 2 : Nat) : Int) = ((j % 2 : Nat) : Int) := IntWalk.i64_in _ (by omega)
      generalize strOf [if j % 2 = 0 then (9 : UInt8) else 32] = t1 at *
      generalize j % 2 = q at *
      generalize strOf (xname s ++ [58] ++ blks j) = t0 at *
      clear HF1 HF2 HK E1 E2 E3 HTB HZZ
      go_wp2_with fail
      go_roundw
      case rel => exact ⟨j + 1, by omega, by go_num, by rw [EJ.out], trivial⟩
      case measure => simp [intOf]; omega
    · obtain rfl : j = b := by omega
      have hlt' : ¬ (j : Int) < (j : Int) := by omega
      have E2' := hideIt E2.out
      clear E1 E2 HTB
      generalize strOf (xname s ++ [58] ++ blks j) = t0 at *
      go_wp2_with fail
      rw [E2'.out]
      clear E2' zj
      go_loopw [12, 14] (fun t i wr' => ∃ m : Nat, m ≤ k ∧ i = .int .i64 (m : Int) ∧ t = .string (strOf (backL s v j m)) ∧ wr' = wr) (fun _ i _ => k - (intOf i).toNat)
      case atStart => exact ⟨0, by omega, rfl, rfl, rfl⟩
      case round =>
        obtain ⟨m, hm, rfl, rfl, rfl⟩ := hrel
        have zm := (HZZ.out j m (by omega) (by omega)).1
        have hwm : IntKind.i64.wrap ((m : Int) + 1) = (m : Int) + 1 := IntWalk.i64_in _ (by omega)
        by_cases hlt : m < k
        · have hlt' : (m : Int) < (k : Int) := by omega
          have EJ := hideIt (E3.out m)
          generalize strOf (backL s v j m) = t0 at *
          clear HF1 HF2 HK E3 HZZ
          go_wp2_with fail
          go_roundw
          case rel => exact ⟨m + 1, by omega, by go_num, by rw [EJ.out], trivial⟩
          case measure => simp [intOf]; omega
        · obtain rfl : m = k := by omega
          have hlt' : ¬ (m : Int) < (m : Int) := by omega
          clear E3 HZZ
          generalize strOf (backL s v j m) = t0 at *
          generalize strOf s = ss at *
          generalize strOf v = sv at *
          have q0 := T1.out.c0
          have q1 := T1.out.c1
          go_wp2_with fail
          refine (HF1.out _).mono ?_
          rintro e u4 ⟨rfl, hb⟩
          have T2 := hideIt (T1.out.keep hb)
          have B5 := hideIt (below_then B4.out hb)
          have A0 := hideIt (Two.new u4 (.string (⟨#[88, 45]⟩ ++ ss)) (.string sv) 23)
          have T3 := hideIt (T2.out.keep (below_new u4 (.cells #[.string (⟨#[88, 45]⟩ ++ ss), .string sv] 23)))
          have B6 := hideIt (below_then B5.out (below_new u4 (.cells #[.string (⟨#[88, 45]⟩ ++ ss), .string sv] 23)))
          clear hb HF1 T2 B5 q0 q1 T1 B4
          go_wp2_with fail
          generalize u4.heap.size = g4 at *
          refine (HF2.out _).mono ?_
          rintro e u5 ⟨rfl, hb⟩
          have A1 := hideIt (A0.out.keep hb)
          have T4 := hideIt (T3.out.keep hb)
          have B7 := hideIt (below_then B6.out hb)
          have C0 := hideIt (Two.new u5 (.string (⟨#[88, 45]⟩ ++ ss)) (.string sv) 23)
          have A2 := hideIt (A1.out.keep (below_new u5 (.cells #[.string (⟨#[88, 45]⟩ ++ ss), .string sv] 23)))
          have T5 := hideIt (T4.out.keep (below_new u5 (.cells #[.string (⟨#[88, 45]⟩ ++ ss), .string sv] 23)))
          have B8 := hideIt (below_then B7.out (below_new u5 (.cells #[.string (⟨#[88, 45]⟩ ++ ss), .string sv] 23)))
          clear hb HF2 A0 T3 B6 A1 T4 B7
          go_wp2_with fail
          generalize u5.heap.size = g5 at *
          refine (HK.out _).mono ?_
          rintro e u6 ⟨rfl, hb⟩
          have A3 := A2.out.keep hb
          have T6 := T5.out.keep hb
          have C1 := C0.out.keep hb
          have B9 := hideIt (below_then B8.out hb)
          have a0 := A3.c0
          have a1 := A3.c1
          have t0 := T6.c0
          have t1 := T6.c1
          have c0 := C1.c0
          have c1 := C1.c1
          clear hb HK A2 T5 C0 B8 A3 T6 C1
          go_wp2_with fail
          go_ret
          exact ⟨rfl, B9.out⟩
end Go.Proofs.YtfmkmgnaalkgoaaDoor
