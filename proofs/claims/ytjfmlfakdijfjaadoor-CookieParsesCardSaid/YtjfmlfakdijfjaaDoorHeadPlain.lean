/- Fields as lists of bytes: tokens, values, blanks at the ends, lines, names but for great letters. No program. -/
import Derived.Test.YtjfmlfakdijfjaaDoorTextPlain
import Derived.Test.YtjfmlfakdijfjaaDoorFillPlain
import Derived.Test.YtjfmlfakdijfjaaDoorTrimPlain
import Derived.Test.YtjfmlfakdijfjaaDoorPairCell
namespace Go.Proofs.YtjfmlfakdijfjaaDoor
set_option linter.unusedVariables false
set_option linter.unusedSimpArgs false

def tokSigns : List UInt8 := [65, 66, 67, 68, 69, 70, 71, 72, 73, 74, 75, 76, 77, 78, 79, 80, 81, 82, 83, 84, 85, 86, 87, 88, 89, 90, 97, 98, 99, 100, 101, 102, 103, 104, 105, 106, 107, 108].append [109, 110, 111, 112, 113, 114, 115, 116, 117, 118, 119, 120, 121, 122, 48, 49, 50, 51, 52, 53, 54, 55, 56, 57, 33, 35, 36, 37, 38, 39, 42, 43, 45, 46, 94, 95, 96, 124, 126]
def valSigns : List UInt8 := [65, 66, 67, 68, 69, 70, 71, 72, 73, 74, 75, 76, 77, 78, 79, 80, 81, 82, 83, 84, 85, 86, 87, 88, 89, 90, 97, 98, 99, 100, 101, 102, 103, 104, 105, 106, 107, 108, 109, 110, 111, 112, 113, 114, 115, 116, 117, 118].append [119, 120, 121, 122, 48, 49, 50, 51, 52, 53, 54, 55, 56, 57, 33, 35, 36, 37, 38, 39, 42, 43, 45, 46, 94, 95, 96, 124, 126, 34, 40, 41, 44, 47, 58, 59, 60, 61, 62, 63, 64, 91, 92, 93, 123, 125, 32, 9]
def bigSigns : List UInt8 := [65, 66, 67, 68, 69, 70, 71, 72, 73, 74, 75, 76, 77, 78, 79, 80, 81, 82, 83, 84, 85, 86, 87, 88, 89, 90]
/-- what holds of 256 numbers holds of each byte -/
theorem each_byte {p : UInt8 → Prop} (h : ∀ k : Fin 256, p (UInt8.ofNat k.val)) (c : UInt8) : p c := by
  have := h ⟨c.toNat, c.toNat_lt⟩
  simpa using this
def tokB (c : UInt8) : Bool := tokSigns.contains c
def blankB (c : UInt8) : Bool := decide (c.toNat = 32) || decide (c.toNat = 9)
def valB (c : UInt8) : Bool := decide (128 ≤ c.toNat) || valSigns.contains c
def smallB (c : UInt8) : UInt8 := if bigSigns.contains c then c + 32 else c
theorem tokSigns_lt : ∀ c ∈ tokSigns, c.toNat < 128 := by decide +kernel
theorem valSigns_lt : ∀ c ∈ valSigns, c.toNat < 128 := by decide +kernel
theorem bigSigns_lt : ∀ c ∈ bigSigns, c.toNat < 128 := by decide +kernel
theorem tokSigns_len : tokSigns.length = 77 := by decide +kernel
theorem bigSigns_len : bigSigns.length = 26 := by decide +kernel
theorem tokB_high (c : UInt8) (h : 128 ≤ c.toNat) : tokB c = false := by
  cases hc : tokB c
  · rfl
  · have := tokSigns_lt c (by simpa [tokB] using hc)
    omega
theorem big_high (c : UInt8) (h : 128 ≤ c.toNat) : bigSigns.contains c = false := by
  cases hc : bigSigns.contains c
  · rfl
  · have := bigSigns_lt c (by simpa using hc)
    omega
theorem small_high (c : UInt8) (h : 128 ≤ c.toNat) : smallB c = c := by rw [smallB, big_high c h]; rfl
theorem valB_high (c : UInt8) (h : 128 ≤ c.toNat) : valB c = true := by simp [valB, h]
theorem valB_low (c : UInt8) (h : c.toNat < 128) : valB c = valSigns.contains c := by
  have : ¬ 128 ≤ c.toNat := by omega
  simp [valB, this]
theorem valB_is (c : UInt8) : valB c = (blankB c || !(decide (c.toNat < 33) || decide (c.toNat = 127))) := by
  refine each_byte (p := fun c => valB c = (blankB c || !(decide (c.toNat < 33) || decide (c.toNat = 127)))) ?_ c
  decide +kernel
theorem blank_is (c : UInt8) : ([32, 9] : List UInt8).contains c = blankB c := by
  refine each_byte (p := fun c => ([32, 9] : List UInt8).contains c = blankB c) ?_ c
  decide +kernel
/-- the bytes of a rune that begins with 80 and more are all so -/
theorem chunk_high (l : List UInt8) (h : 128 ≤ at4 l 0) (j : Nat) (hj : j < wd l) : 128 ≤ at4 l j := by
  have a0 := at4_lt l 0
  rcases told l with ⟨q0, e⟩ | ⟨_, q0, q1, e⟩ | ⟨_, q0, q1, q2, qr, qs, e⟩ | ⟨_, q0, q1, q2, q3, qr, qs, e⟩ | ⟨q0, _, _, _, e⟩
  · omega
  · rw [wd, e] at hj; simp only at hj
    rcases (by omega : j = 0 ∨ j = 1) with rfl | rfl <;> omega
  · rw [wd, e] at hj; simp only at hj
    rcases (by omega : j = 0 ∨ j = 1 ∨ j = 2) with rfl | rfl | rfl <;> omega
  · rw [wd, e] at hj; simp only at hj
    rcases (by omega : j = 0 ∨ j = 1 ∨ j = 2 ∨ j = 3) with rfl | rfl | rfl | rfl <;> omega
  · rw [wd, e] at hj; simp only at hj
    obtain rfl : j = 0 := by omega
    exact h
/-- what a rune of 80 and more may be -/
theorem dec_high (l : List UInt8) (h : 128 ≤ at4 l 0) : 128 ≤ (dec l).1 ∧ ((dec l).1 < 55296 ∨ 57343 < (dec l).1) ∧ (dec l).1 ≤ 1114111 := by
  have a0 := at4_lt l 0
  have hm := dec_max l
  rcases told l with ⟨q0, e⟩ | ⟨_, q0, q1, e⟩ | ⟨_, q0, q1, q2, qr, qs, e⟩ | ⟨_, q0, q1, q2, q3, qr, qs, e⟩ | ⟨q0, _, _, _, e⟩
  · omega
  · rw [e] at hm ⊢; simp only at hm ⊢; omega
  · rw [e] at hm ⊢; simp only at hm ⊢; omega
  · rw [e] at hm ⊢; simp only at hm ⊢; omega
  · rw [e] at hm ⊢; simp only at hm ⊢; omega
theorem dec_low (l : List UInt8) (h : at4 l 0 < 128) : dec l = (at4 l 0, 1) := by
  rcases told l with ⟨q0, e⟩ | ⟨_, q0, q1, e⟩ | ⟨_, q0, q1, q2, qr, qs, e⟩ | ⟨_, q0, q1, q2, q3, qr, qs, e⟩ | ⟨q0, _, _, _, e⟩
  · exact e
  all_goals omega
theorem at4_get (l : List UInt8) (k : Nat) (h : k < l.length) : at4 l k = (l[k]).toNat := by simp [at4, List.getD, h]
theorem at4_dropget (l : List UInt8) (k : Nat) (h : k < l.length) : at4 (l.drop k) 0 = (l[k]).toNat := by rw [at4_drop, Nat.add_zero, at4_get l k h]
/-- each byte of a chunk of 80 and more, by its place in the whole -/
theorem chunk_at (l : List UInt8) (k : Nat) (hk : k < l.length) (h : 128 ≤ (l[k]).toNat) (j : Nat) (h1 : k ≤ j) (h2 : j < k + wd (l.drop k)) (hj : j < l.length) : 128 ≤ (l[j]).toNat := by
  have := chunk_high (l.drop k) (by rw [at4_dropget l k hk]; exact h) (j - k) (by omega)
  rw [at4_drop, show k + (j - k) = j by omega, at4_get l j hj] at this
  exact this
theorem step_le (l : List UInt8) (k : Nat) (hk : k < l.length) : k + wd (l.drop k) ≤ l.length := by
  have := wd_le (l.drop k) (by rw [List.length_drop]; omega)
  rw [List.length_drop] at this
  omega
/-- all up to a place: one byte more, or a chunk of 80 and more -/
theorem all_step (p : UInt8 → Bool) (l : List UInt8) (k m : Nat) (hkm : k ≤ m) (hm : m ≤ l.length) (h : (l.take k).all p = true) (hp : ∀ j (hj : j < l.length), k ≤ j → j < m → p l[j] = true) : (l.take m).all p = true := by
  rw [List.all_eq_true] at h ⊢
  intro x hx
  obtain ⟨j, hj, rfl⟩ := List.mem_iff_getElem.1 hx
  rw [List.length_take] at hj
  rw [List.getElem_take]
  by_cases hjk : j < k
  · exact h _ (List.mem_iff_getElem.2 ⟨j, by rw [List.length_take]; omega, by rw [List.getElem_take]⟩)
  · exact hp j (by omega) (by omega) (by omega)
theorem all_not (p : UInt8 → Bool) (l : List UInt8) (k : Nat) (hk : k < l.length) (h : p l[k] = false) : l.all p = false := by
  cases ha : l.all p
  · rfl
  · rw [List.all_eq_true] at ha
    rw [ha _ (List.getElem_mem hk)] at h
    cases h

/-! ### tokens, values -/
def tokenL (l : List UInt8) : Bool := l.all tokB && decide (l ≠ [])
def valueL (l : List UInt8) : Bool := l.all valB && decide (l = trimL l)
/-! ### blanks at the ends -/
def blP (c : UInt8) : Bool := ([32, 9] : List UInt8).contains c
def endsB (m : List UInt8) : Prop := (∃ x, m.head? = some x ∧ blankB x = false) ∧ ∃ y, m.getLast? = some y ∧ blankB y = false
theorem dw_stop (p : UInt8 → Bool) (m : List UInt8) (x : UInt8) (h : m.head? = some x) (hx : p x = false) : m.dropWhile p = m := by
  cases m with
  | nil => rfl
  | cons a r => simp at h; subst h; rw [List.dropWhile_cons, hx]; rfl
theorem dw_skip (p : UInt8 → Bool) (a r : List UInt8) (h : ∀ c ∈ a, p c = true) : (a ++ r).dropWhile p = r.dropWhile p := by
  induction a with
  | nil => rfl
  | cons x a ih => rw [List.cons_append, List.dropWhile_cons, h x (by simp), if_pos rfl]; exact ih fun c hc => h c (by simp [hc])
theorem dw_all (p : UInt8 → Bool) (a : List UInt8) (h : ∀ c ∈ a, p c = true) : a.dropWhile p = [] := by
  have := dw_skip p a [] h
  rw [List.append_nil] at this
  exact this
theorem left_mid (p m : List UInt8) (hp : ∀ c ∈ p, blankB c = true) (hm : endsB m) : Lib.trimLeftS (p ++ m) [32, 9] = m := by
  obtain ⟨⟨x, hx, bx⟩, _⟩ := hm
  unfold Lib.trimLeftS
  rw [dw_skip _ _ _ (fun c hc => by rw [blank_is]; exact hp c hc), dw_stop _ _ x hx (by rw [blank_is]; exact bx)]
theorem right_mid (m q : List UInt8) (hq : ∀ c ∈ q, blankB c = true) (hm : ∃ y, m.getLast? = some y ∧ blankB y = false) : Lib.trimRightS (m ++ q) [32, 9] = m := by
  obtain ⟨y, hy, b⟩ := hm
  unfold Lib.trimRightS
  rw [List.reverse_append, dw_skip _ _ _ (fun c hc => by rw [blank_is]; exact hq c (by simpa using hc)), dw_stop _ _ y (by rw [List.head?_reverse]; exact hy) (by rw [blank_is]; exact b), List.reverse_reverse]
theorem last_append (p m : List UInt8) (hm : ∃ y, m.getLast? = some y ∧ blankB y = false) : ∃ y, (p ++ m).getLast? = some y ∧ blankB y = false := by
  obtain ⟨y, hy, b⟩ := hm
  exact ⟨y, by rw [List.getLast?_append, hy]; rfl, b⟩
theorem trim_mid (p m q : List UInt8) (hp : ∀ c ∈ p, blankB c = true) (hq : ∀ c ∈ q, blankB c = true) (hm : endsB m) : trimL (p ++ m ++ q) = m := by
  unfold trimL Lib.trimS
  rw [right_mid _ q hq (last_append p m hm.2), left_mid p m hp hm]
theorem trim_all (l : List UInt8) (h : ∀ c ∈ l, blankB c = true) : trimL l = [] := by
  unfold trimL Lib.trimS Lib.trimRightS Lib.trimLeftS
  rw [dw_all _ l.reverse (fun c hc => by rw [blank_is]; exact h c (by simpa using hc))]
  rfl
theorem split_left (l : List UInt8) : (∀ c ∈ l, blankB c = true) ∨ ∃ p m, l = p ++ m ∧ (∀ c ∈ p, blankB c = true) ∧ ∃ x, m.head? = some x ∧ blankB x = false := by
  induction l with
  | nil => exact .inl (by simp)
  | cons a r ih =>
    cases hb : blankB a
    · exact .inr ⟨[], a :: r, rfl, by simp, a, rfl, hb⟩
    · rcases ih with h | ⟨p, m, rfl, hp, hm⟩
      · exact .inl (by intro c hc; rcases List.mem_cons.1 hc with rfl | hc; exact hb; exact h c hc)
      · exact .inr ⟨a :: p, m, rfl, by intro c hc; rcases List.mem_cons.1 hc with rfl | hc; exact hb; exact hp c hc, hm⟩
theorem split_trim (l : List UInt8) : (∀ c ∈ l, blankB c = true) ∨ ∃ p m q, l = p ++ m ++ q ∧ (∀ c ∈ p, blankB c = true) ∧ (∀ c ∈ q, blankB c = true) ∧ endsB m := by
  rcases split_left l with h | ⟨p, m, rfl, hp, x, hx, bx⟩
  · exact .inl h
  · right
    rcases split_left m.reverse with h | ⟨q, n, hn, hq, y, hy, bY⟩
    · exfalso
      have : x ∈ m := List.mem_of_head? hx
      rw [h x (by simpa using this)] at bx
      cases bx
    · have hm : m = n.reverse ++ q.reverse := by rw [← List.reverse_append, ← hn, List.reverse_reverse]
      refine ⟨p, n.reverse, q.reverse, by rw [hm, List.append_assoc], hp, fun c hc => hq c (by simpa using hc), ⟨x, ?_, bx⟩, y, by rw [List.getLast?_reverse]; exact hy, bY⟩
      rw [hm] at hx
      cases hr : n.reverse with
      | nil =>
        have : n = [] := by simpa using hr
        rw [this] at hy; cases hy
      | cons a b => rw [hr] at hx; exact hx
theorem trim_ends {m : List UInt8} (hm : endsB m) : trimL m = m := by
  have := trim_mid [] m [] (by simp) (by simp) hm
  simpa using this
/-- the other way round: the left end first -/
theorem trim_turn (l : List UInt8) : Lib.trimRightS (Lib.trimLeftS l [32, 9]) [32, 9] = trimL l := by
  rcases split_trim l with h | ⟨p, m, q, rfl, hp, hq, hm⟩
  · rw [trim_all l h]
    unfold Lib.trimLeftS
    rw [dw_all _ l (fun c hc => by rw [blank_is]; exact h c hc)]
    rfl
  · rw [trim_mid p m q hp hq hm]
    have e : Lib.trimLeftS (p ++ m ++ q) [32, 9] = m ++ q := by
      obtain ⟨⟨x, hx, bx⟩, _⟩ := hm
      unfold Lib.trimLeftS
      rw [List.append_assoc, dw_skip _ _ _ (fun c hc => by rw [blank_is]; exact hp c hc), dw_stop _ _ x (by cases m with | nil => cases hx | cons a b => exact hx) (by rw [blank_is]; exact bx)]
    rw [e, right_mid m q hq hm.2]
theorem trim_fix (l : List UInt8) : l = trimL l ↔ l = [] ∨ endsB l := by
  constructor
  · intro h
    rcases split_trim l with h1 | ⟨p, m, q, rfl, hp, hq, hm⟩
    · rw [trim_all l h1] at h; exact .inl h
    · rw [trim_mid p m q hp hq hm] at h; rw [h]; exact .inr hm
  · rintro (rfl | h)
    · rfl
    · exact (trim_ends h).symm
theorem trim_len (l : List UInt8) : (trimL l).length ≤ l.length := by
  rcases split_trim l with h1 | ⟨p, m, q, rfl, hp, hq, hm⟩
  · rw [trim_all l h1]; simp
  · rw [trim_mid p m q hp hq hm]; simp; omega

/-! ### lines -/
def nameL (l : List UInt8) : List UInt8 := l.takeWhile fun c => decide (c ≠ 58)
def restL (l : List UInt8) : List UInt8 := trimL (l.drop ((nameL l).length + 1))
def okP (p : PairL) : Bool := tokenL p.1 && valueL p.2
def fieldL (l : List UInt8) : PairL × Nat :=
  if 2000 < l.length then (PairZ, 3) else if 58 ∈ l then (if okP (nameL l, restL l) then ((nameL l, restL l), 0) else (PairZ, 12)) else (PairZ, 12)
def lineL (p : PairL) : List UInt8 := p.1 ++ [58, 32] ++ p.2
def printF (p : PairL) : List UInt8 × Nat := if okP p then (if 2000 < (lineL p).length then ([], 3) else (lineL p, 0)) else ([], 12)
theorem name_at (l : List UInt8) (k : Nat) (hk : k < l.length) (h : l[k] = 58) (ha : (l.take k).all (fun c => decide (c ≠ 58)) = true) : nameL l = l.take k := by
  have e : l = l.take k ++ 58 :: l.drop (k + 1) := by
    conv => lhs; rw [← List.take_append_drop k l, List.drop_eq_getElem_cons hk, h]
  rw [nameL]
  conv => lhs; rw [e]
  rw [List.takeWhile_append_of_pos (by simpa using ha)]
  simp
theorem colon_in (l : List UInt8) (k : Nat) (hk : k < l.length) (h : l[k] = 58) : 58 ∈ l := by rw [← h]; exact List.getElem_mem hk
theorem colon_no (l : List UInt8) (h : l.all (fun c => decide (c ≠ 58)) = true) : ¬ 58 ∈ l := fun hm => by
  rw [List.all_eq_true] at h
  simpa using h 58 hm
theorem name_app (n r : List UInt8) (h : ∀ c ∈ n, c ≠ 58) : nameL (n ++ 58 :: r) = n := by
  unfold nameL
  rw [List.takeWhile_append_of_pos (by simpa using h)]
  simp
theorem rest_app (n r : List UInt8) (h : ∀ c ∈ n, c ≠ 58) : restL (n ++ 58 :: r) = trimL r := by
  unfold restL
  rw [name_app n r h, List.drop_append, List.drop_of_length_le (by omega)]
  simp
theorem fieldL_len (l : List UInt8) : (fieldL l).1.1.length ≤ l.length ∧ (fieldL l).1.2.length ≤ l.length := by
  have h1 : (nameL l).length ≤ l.length := (List.takeWhile_sublist _).length_le
  have h2 : (restL l).length ≤ l.length := by
    have := trim_len (l.drop ((nameL l).length + 1))
    rw [List.length_drop] at this
    unfold restL; omega
  unfold fieldL
  split
  · simp [PairZ]
  · split
    · split
      · exact ⟨h1, h2⟩
      · simp [PairZ]
    · simp [PairZ]
/-! ### names but for great letters -/
def smallL (l : List UInt8) : List UInt8 := l.map smallB
def sameL (a b : List UInt8) : Bool := decide (smallL a = smallL b)
def allL (ps : List PairL) (n : List UInt8) : List (List UInt8) := (ps.filter fun x => sameL x.1 n).map (·.2)
theorem same_len {a b : List UInt8} (h : ¬ a.length = b.length) : sameL a b = false := by
  refine decide_eq_false fun e => h ?_
  have := congrArg List.length e
  simpa [smallL] using this
end Go.Proofs.YtjfmlfakdijfjaaDoor
