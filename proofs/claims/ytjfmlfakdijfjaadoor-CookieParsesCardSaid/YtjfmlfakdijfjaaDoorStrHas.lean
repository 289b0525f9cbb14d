/- Contracts of strings.IndexByte, and of strings.IndexRune, strings.ContainsRune at a text of ASCII: the library's own, laid at this program; runes of 80 and more are walked here. -/
import Derived.Test.YtjfmlfakdijfjaaDoorStrFacts
import Derived.Test.YtjfmlfakdijfjaaDoorIter
import Derived.Shelf.Strings.Runes
import Derived.Shelf.Small.Utf8
import Derived.WalkMore
namespace Go.Proofs.YtjfmlfakdijfjaaDoor
open Go.ChangeShapes Go.WideShapes Go.ChangeAt Go.RowKit Go.Shelf
set_option linter.unusedVariables false
set_option linter.unusedSimpArgs false

def renH : Go.Shelf.Ren := ⟨fun | 119 => 85 | 137 => 84 | 151 => 57 | 152 => 71 | 217 => 72 | 224 => 74 | 225 => 73 | 266 => 86 | n => n, fun | 0 => 0 | 3 => 3 | 4 => 4 | 5 => 5 | 9 => 9 | 21 => 21 | 46 => 64 | n => n, fun | n => n⟩
theorem laysH151 : Go.Proofs.Lays.n151 Tryd.prog renH := {
  mixed := by kernel_rfl
  f119 := Tryd.func85.trans (congrArg some (by kernel_rfl))
  f137 := Tryd.func84.trans (congrArg some (by kernel_rfl))
  f151 := Tryd.func57.trans (congrArg some (by kernel_rfl))
  f152 := Tryd.func71.trans (congrArg some (by kernel_rfl))
  f217 := Tryd.func72.trans (congrArg some (by kernel_rfl))
  f224 := Tryd.func74.trans (congrArg some (by kernel_rfl))
  f225 := Tryd.func73.trans (congrArg some (by kernel_rfl))
  f266 := Tryd.func86.trans (congrArg some (by kernel_rfl))
  t0 := Tryd.underlying0
  a0 := Tryd.isAgg0
  z0 := Tryd.sizeOf0
  v0 := Tryd.zeroValue0
  t3 := Tryd.underlying3
  a3 := Tryd.isAgg3
  z3 := Tryd.sizeOf3
  v3 := Tryd.zeroValue3
  t4 := Tryd.underlying4
  a4 := Tryd.isAgg4
  z4 := Tryd.sizeOf4
  v4 := Tryd.zeroValue4
  t5 := Tryd.underlying5
  a5 := Tryd.isAgg5
  z5 := Tryd.sizeOf5
  v5 := Tryd.zeroValue5
  t9 := Tryd.underlying9
  a9 := Tryd.isAgg9
  z9 := Tryd.sizeOf9
  v9 := Tryd.zeroValue9
  t21 := Tryd.underlying21
  a21 := Tryd.isAgg21
  z21 := Tryd.sizeOf21
  v21 := Tryd.zeroValue21
  t46 := Tryd.underlying64
  a46 := Tryd.isAgg64
  z46 := Tryd.sizeOf64
  v46 := Tryd.zeroValue64 }

theorem idx_no (l : List UInt8) (c : UInt8) (h : c ∉ l) : Lib.indexByte l c = -1 := by
  induction l with
  | nil => rfl
  | cons b r ih =>
    have h1 : ¬ b = c := fun e => h (by simp [e])
    have h2 := ih (fun m => h (by simp [m]))
    simp [Lib.indexByte, h1, h2]
theorem idx_in (l : List UInt8) (c : UInt8) (h : c ∈ l) : 0 ≤ Lib.indexByte l c := by
  induction l with
  | nil => simp at h
  | cons b r ih =>
    by_cases h1 : b = c
    · simp [Lib.indexByte, h1]
    · have h2 := ih (by simpa [Ne.symm h1] using h)
      have h3 : ¬ Lib.indexByte r c = -1 := by omega
      simp [Lib.indexByte, h1, h3]; omega
theorem idx_is (l : List UInt8) (c : UInt8) : decide (0 ≤ Lib.indexByte l c) = l.contains c := by
  by_cases h : c ∈ l
  · rw [decide_eq_true (idx_in l c h)]; simp [h]
  · rw [idx_no l c h]; simp [h]
theorem contains_ascii (l : List UInt8) (r : Nat) (w : World) (hr : r < 128) : Calls Tryd.prog 57 #[.string (strOf l), .int .i32 (r : Int)] w fun e w' => e = .returned (.bool (l.contains (UInt8.ofNat r))) ∧ w' = w := by
  have := Any.strings_ContainsRune_ascii laysH151 (strOf l) (r : Int) w (by omega) (by omega)
  rw [← idx_is]
  exact this
theorem indexbyte_no (l : List UInt8) (c : UInt8) (w : World) (h : c ∉ l) : Calls Tryd.prog 84 #[.string (strOf l), .int .u8 (c.toNat : Int)] w fun e w' => e = .returned (.int .i64 (-1)) ∧ w' = w := by
  have := Any.strings_IndexByte { laysH151 with } (strOf l) (c.toNat : Int) w
  rw [show ((c.toNat : Int)).toNat.toUInt8 = c by simp, show (strOf l).data.toList = l by simp [strOf], idx_no l c h] at this
  exact this
theorem validrune_any (r : Nat) (w : World) (h1 : r < 55296 ∨ 57343 < r) (h2 : r ≤ 1114111) : Calls Tryd.prog 85 #[.int .i32 (r : Int)] w fun e w' => e = .returned (.bool true) ∧ w' = w := by
  have := Any.utf8_ValidRune { laysH151 with } (r : Int) w
  rw [show Lib.validRune (r : Int) = true by simp only [Lib.validRune, decide_eq_true_eq]; omega] at this
  exact this
/-- the bytes of a rune of 80 and more: two at least, and the last is one of 80 and more -/
theorem encode_high (r : Nat) (h : 128 ≤ r) (h1 : r < 55296 ∨ 57343 < r) (h2 : r ≤ 1114111) : ∃ (e : List UInt8) (x : UInt8), Utf8.encode (r : Int) = strOf e ∧ 2 ≤ e.length ∧ e.length ≤ 4 ∧ e[e.length - 1]? = some x ∧ 128 ≤ x.toNat := by
  have hv : Utf8.valid (r : Int) = true := by simp only [Utf8.valid, Bool.or_eq_true, Bool.and_eq_true, decide_eq_true_eq]; omega
  have hx : (UInt8.ofNat (128 + r % 64)).toNat = 128 + r % 64 := by rw [UInt8.toNat_ofNat']; omega
  simp only [Utf8.encode, hv, if_true, Int.toNat_natCast]
  rw [if_neg (by omega)]
  split
  · exact ⟨[_, UInt8.ofNat (128 + r % 64)], UInt8.ofNat (128 + r % 64), rfl, by simp, by simp, rfl, by omega⟩
  · split
    · exact ⟨[_, _, UInt8.ofNat (128 + r % 64)], UInt8.ofNat (128 + r % 64), rfl, by simp, by simp, rfl, by omega⟩
    · exact ⟨[_, _, _, UInt8.ofNat (128 + r % 64)], UInt8.ofNat (128 + r % 64), rfl, by simp, by simp, rfl, by omega⟩
theorem run_runestr (r : Int) (w : World) : (convert 21 9 (.int .i32 r)).run Tryd.prog w = .ok (.string (Utf8.encode r)) w := by
  go_simp
set_option maxRecDepth 8000 in
set_option maxHeartbeats 2000000 in
theorem indexrune_bad (l : List UInt8) (w : World) (ha : ∀ c ∈ l, c.toNat < 128) (hl : l.length ≤ 1000) :
    Calls Tryd.prog 71 #[.string (strOf l), .int .i32 65533] w fun e w' => e = .returned (.int .i64 (-1)) ∧ Below w.heap.size w w' := by
  have HSZ := hideIt (strOf_size l)
  have HGET := hideIt (strOf_get? l)
  have HA := hideIt ha
  clear ha
  generalize strOf l = s at *
  go_enter Tryd.func71, Tryd.ntmps71
  go_wp2
  go_loopw [] (fun wr => ∃ k : Nat, k ≤ l.length ∧ wr = w.iter s k) (fun wr => l.length - wr.iterPos w.heap.size)
  case atStart => exact ⟨0, Nat.zero_le _, rfl⟩
  case round =>
    obtain ⟨k, hk, rfl⟩ := hrel
    by_cases hkl : k < l.length
    · have hks : k < s.size := by have := HSZ.out; omega
      have hsk : s[k] = l[k] := by
        have := HGET.out k
        rw [getElem?_pos s k hks, List.getElem?_eq_getElem hkl] at this
        exact Option.some.inj this
      have hasc : (s[k]).toNat < 128 := by rw [hsk]; exact HA.out _ (List.getElem_mem hkl)
      have hnx : ∀ ty, (Instr.next (.pointer (some ⟨w.heap.size, 0, none⟩)) true ty).run Tryd.prog (w.iter s k) = .ok (.tuple #[.bool true, .int .i64 (k : Int), .int .i32 ((s[k]).toNat : Int)]) (w.iter s (k + 1)) := fun ty => run_next_ascii (P := Tryd.prog) w s k ty hks hasc
      have hne : (((s[k]).toNat : Int) == 65533) = false := by rw [beq_eq_false_iff_ne]; omega
      clear hsk
      generalize (s[k]).toNat = u at *
      go_wp2_with fail
      go_roundw
      case rel => exact ⟨k + 1, by omega, rfl⟩
      case measure => rw [iterPos_at _ _ _ _ rfl, iterPos_at _ _ _ _ rfl]; omega
    · obtain rfl : k = l.length := by omega
      have hnx : ∀ ty, (Instr.next (.pointer (some ⟨w.heap.size, 0, none⟩)) true ty).run Tryd.prog (w.iter s l.length) = .ok (.tuple #[.bool false]) (w.iter s l.length) := fun ty => run_next_end (P := Tryd.prog) w s l.length ty (by have := HSZ.out; omega)
      have R := hideIt (below_iter w s l.length)
      go_wp2_with fail
      go_ret
      exact ⟨rfl, R.out⟩
set_option maxRecDepth 8000 in
set_option maxHeartbeats 2000000 in
theorem indexrune_high (l : List UInt8) (r : Nat) (w : World) (ha : ∀ c ∈ l, c.toNat < 128) (hl : l.length ≤ 1000) (h4 : 4 ≤ l.length) (hr : 128 ≤ r) (h1 : r < 55296 ∨ 57343 < r) (h2 : r ≤ 1114111) (h3 : r ≠ 65533) :
    Calls Tryd.prog 71 #[.string (strOf l), .int .i32 (r : Int)] w fun e w' => e = .returned (.int .i64 (-1)) ∧ Below w.heap.size w w' := by
  obtain ⟨e, x, he, e2, e4, hx, hx8⟩ := encode_high r hr h1 h2
  have hc := fun w => run_runestr (r : Int) w
  rw [he] at hc
  obtain ⟨n, hn⟩ : ∃ n, e.length = n + 1 := ⟨e.length - 1, by omega⟩
  have hx' : e[n]? = some x := by rw [← hx, hn]; rfl
  obtain ⟨y, hy⟩ : ∃ y, l[n]? = some y := ⟨l[n]'(by omega), List.getElem?_eq_getElem (by omega)⟩
  have hy8 := ha y (List.mem_of_getElem? hy)
  have hse := strOf_size e
  have hsl := strOf_size l
  have i1 : ∀ w, (Instr.index 9 (.string (strOf l)) (.int .i64 (n : Int))).run Tryd.prog w = .ok (.int .u8 (y.toNat : Int)) w := fun w => by
    have := run_index_str w l .i64 n (by omega)
    rwa [show l[n]'(by omega) = y from (List.getElem?_eq_some_iff.1 hy).2] at this
  have i2 : ∀ w, (Instr.index 9 (.string (strOf e)) (.int .i64 (n : Int))).run Tryd.prog w = .ok (.int .u8 (x.toNat : Int)) w := fun w => by
    have := run_index_str w e .i64 n (by omega)
    rwa [show e[n]'(by omega) = x from (List.getElem?_eq_some_iff.1 hx').2] at this
  have i3 : ∀ w, (Instr.slice 9 (.string (strOf l)) (some (.int .i64 ((n : Int) + 1))) none none).run Tryd.prog w = .ok (.string (strOf (l.drop (n + 1)))) w := fun w => by
    have := run_slice_str w l (some (.int .i64 ((n + 1 : Nat) : Int))) none .i64 .i64 (n + 1) l.length (.inr rfl) (.inl ⟨rfl, rfl⟩) (by omega) (Nat.le_refl _)
    rwa [List.take_of_length_le (by simp)] at this
  have HI := hideIt (fun w => indexbyte_no (l.drop (n + 1)) x w (fun m => by have := ha x (List.mem_of_mem_drop m); omega))
  have HV := hideIt (fun w => validrune_any r w h1 h2)
  have q0 : (0 : Int) ≤ (r : Int) := by omega
  have q1 : ¬ (r : Int) < 128 := by omega
  have q2 : ((r : Int) == 65533) = false := by rw [beq_eq_false_iff_ne]; omega
  have q3 : ((y.toNat : Int) == (x.toNat : Int)) = false := by rw [beq_eq_false_iff_ne]; omega
  have q4 : (n : Int) < (l.length : Int) := by omega
  have q5 : IntKind.i64.wrap (((n + 1 : Nat) : Int) - 1) = (n : Int) := by rw [IntWalk.i64_in _ (by omega)]; omega
  have q6 : IntKind.i64.wrap ((n : Int) + 1) = (n : Int) + 1 := IntWalk.i64_in _ (by omega)
  have hn3 : n ≤ 3 := by omega
  rw [hn] at hse
  clear he ha hl h4 hr h1 h2 h3 e2 e4 hx hx8 hx' hy hy8
  generalize strOf (l.drop (n + 1)) = t at *
  generalize (x.toNat : Int) = xi at *
  generalize (y.toNat : Int) = yi at *
  generalize strOf e = E at *
  generalize strOf l = s at *
  go_enter Tryd.func71, Tryd.ntmps71
  go_wp2_with fail
  refine (HV.out _).mono ?_
  rintro e1 w1 ⟨rfl, rfl⟩
  go_wp2_with fail
  go_step3
  go_wp2_with fail
  go_loopw [9, 10] (fun i f wr => i = .int .i64 (n : Int) ∧ f = .int .i64 0 ∧ wr = w1) (fun i f wr => 0)
  case atStart => exact ⟨by go_num, rfl, rfl⟩
  case round =>
    obtain ⟨rfl, rfl, rfl⟩ := hrel
    go_wp2_with fail
    go_step3
    go_wp2_with fail
    go_region
    go_wp2_with fail
    go_region_with (first | (go_at_call 84; refine (HI.out _).mono ?_; rintro e2 w2 ⟨rfl, rfl⟩))
    go_wp2_with fail
    change bodyPost Tryd.prog Tryd.f71 (fun e w' => e = .returned (.int .i64 (-1)) ∧ Below wr.heap.size wr w') Exit.ret _ _
    go_ret
    exact ⟨rfl, (Below.refl _ _).drew.drew⟩
theorem contains_high (l : List UInt8) (r : Nat) (w : World) (ha : ∀ c ∈ l, c.toNat < 128) (hl : l.length ≤ 1000) (h4 : 4 ≤ l.length) (hr : 128 ≤ r) (h1 : r < 55296 ∨ 57343 < r) (h2 : r ≤ 1114111) :
    Calls Tryd.prog 57 #[.string (strOf l), .int .i32 (r : Int)] w fun e w' => e = .returned (.bool false) ∧ Below w.heap.size w w' := by
  have H : Hid (Calls Tryd.prog 71 #[.string (strOf l), .int .i32 (r : Int)] w fun e w' => e = .returned (.int .i64 (-1)) ∧ Below w.heap.size w w') := hideIt (by
    by_cases h3 : r = 65533
    · subst h3; exact indexrune_bad l w ha hl
    · exact indexrune_high l r w ha hl h4 hr h1 h2 h3)
  clear ha
  go_enter Tryd.func57, Tryd.ntmps57
  go_wp2_with fail
  refine H.out.mono ?_
  rintro e w1 ⟨rfl, hb⟩
  have HB := hideIt hb
  clear hb
  go_wp2_with fail
  go_ret
  exact ⟨rfl, HB.out⟩
theorem go_contains : goFn Tryd.prog 57 = true := by kernel_rfl
end Go.Proofs.YtjfmlfakdijfjaaDoor
