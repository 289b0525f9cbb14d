/- Texts as a range over a string tells them: chunks, each a rune's bytes or one byte that is none of a rune; how many there are, what they become in a page. No program. -/
import Derived.Test.YtjfmlfakdijfjaaDoorStr
import Derived.Lib.DecodeN
namespace Go.Proofs.YtjfmlfakdijfjaaDoor
set_option linter.unusedVariables false
set_option linter.unusedSimpArgs false

def at4 (l : List UInt8) (k : Nat) : Nat := (l.getD k 0).toNat
/-- the rune that a text begins with, and how many bytes it has -/
def dec (l : List UInt8) : Nat × Nat := Lib.decodeN l.length (at4 l 0) (at4 l 1) (at4 l 2) (at4 l 3)
def wd (l : List UInt8) : Nat := (dec l).2
/-- does a text begin with a rune's bytes? -/
def goodL (l : List UInt8) : Bool := decide (wd l ≠ 1) || decide (at4 l 0 < 128)
theorem at4_lt (l : List UInt8) (k : Nat) : at4 l k < 256 := (l.getD k 0).toNat_lt
theorem at4_drop (l : List UInt8) (k j : Nat) : at4 (l.drop k) j = at4 l (k + j) := by simp [at4, List.getD]
theorem at4_append (l r : List UInt8) (k : Nat) (h : k < l.length) : at4 (l ++ r) k = at4 l k := by simp [at4, List.getD, List.getElem?_append_left h]
theorem at4_take (l : List UInt8) (n k : Nat) (h : k < n) : at4 (l.take n) k = at4 l k := by simp [at4, List.getD, List.getElem?_take, h]
theorem get!_strOf (l : List UInt8) (i : Nat) : ((strOf l).get! i).toNat = at4 l i := by
  have : (strOf l).get! i = l.getD i 0 := by
    show (strOf l).data[i]! = _
    simp [strOf, List.getD, getElem!_def]
    cases h : l[i]? <;> rfl
  rw [this]; rfl
theorem decode_strOf (l : List UInt8) (k : Nat) : Utf8.decode (strOf l) k = dec (l.drop k) := by
  rw [Lib.decode_at, strOf_size]
  simp only [get!_strOf, dec, at4_drop, List.length_drop]
  rfl
/-- what may be told of a text that is not empty -/
inductive Told (l : List UInt8) : Prop where
  | one (h0 : at4 l 0 < 128) (h : dec l = (at4 l 0, 1)) : Told l
  | two (hn : 2 ≤ l.length) (h0 : 194 ≤ at4 l 0 ∧ at4 l 0 < 224) (h1 : at4 l 1 / 64 = 2) (h : dec l = (at4 l 0 % 32 * 64 + at4 l 1 % 64, 2)) : Told l
  | three (hn : 3 ≤ l.length) (h0 : 224 ≤ at4 l 0 ∧ at4 l 0 < 240) (h1 : at4 l 1 / 64 = 2) (h2 : at4 l 2 / 64 = 2) (hr : 2048 ≤ at4 l 0 % 16 * 4096 + at4 l 1 % 64 * 64 + at4 l 2 % 64) (hs : at4 l 0 % 16 * 4096 + at4 l 1 % 64 * 64 + at4 l 2 % 64 < 55296 ∨ 57344 ≤ at4 l 0 % 16 * 4096 + at4 l 1 % 64 * 64 + at4 l 2 % 64) (h : dec l = (at4 l 0 % 16 * 4096 + at4 l 1 % 64 * 64 + at4 l 2 % 64, 3)) : Told l
  | four (hn : 4 ≤ l.length) (h0 : 240 ≤ at4 l 0 ∧ at4 l 0 < 245) (h1 : at4 l 1 / 64 = 2) (h2 : at4 l 2 / 64 = 2) (h3 : at4 l 3 / 64 = 2) (hr : 65536 ≤ at4 l 0 % 8 * 262144 + at4 l 1 % 64 * 4096 + at4 l 2 % 64 * 64 + at4 l 3 % 64) (hs : at4 l 0 % 8 * 262144 + at4 l 1 % 64 * 4096 + at4 l 2 % 64 * 64 + at4 l 3 % 64 ≤ 1114111) (h : dec l = (at4 l 0 % 8 * 262144 + at4 l 1 % 64 * 4096 + at4 l 2 % 64 * 64 + at4 l 3 % 64, 4)) : Told l
  | none (h0 : 128 ≤ at4 l 0)
      (n2 : ¬ (2 ≤ l.length ∧ (194 ≤ at4 l 0 ∧ at4 l 0 < 224) ∧ at4 l 1 / 64 = 2))
      (n3 : ¬ (3 ≤ l.length ∧ (224 ≤ at4 l 0 ∧ at4 l 0 < 240) ∧ at4 l 1 / 64 = 2 ∧ at4 l 2 / 64 = 2 ∧ 2048 ≤ at4 l 0 % 16 * 4096 + at4 l 1 % 64 * 64 + at4 l 2 % 64 ∧ (at4 l 0 % 16 * 4096 + at4 l 1 % 64 * 64 + at4 l 2 % 64 < 55296 ∨ 57344 ≤ at4 l 0 % 16 * 4096 + at4 l 1 % 64 * 64 + at4 l 2 % 64)))
      (n4 : ¬ (4 ≤ l.length ∧ (240 ≤ at4 l 0 ∧ at4 l 0 < 245) ∧ at4 l 1 / 64 = 2 ∧ at4 l 2 / 64 = 2 ∧ at4 l 3 / 64 = 2 ∧ 65536 ≤ at4 l 0 % 8 * 262144 + at4 l 1 % 64 * 4096 + at4 l 2 % 64 * 64 + at4 l 3 % 64 ∧ at4 l 0 % 8 * 262144 + at4 l 1 % 64 * 4096 + at4 l 2 % 64 * 64 + at4 l 3 % 64 ≤ 1114111))
      (h : dec l = (65533, 1)) : Told l
theorem told (l : List UInt8) : Told l := by
  have a0 := at4_lt l 0
  have a1 := at4_lt l 1
  have a2 := at4_lt l 2
  have a3 := at4_lt l 3
  have hd : dec l = Lib.decodeN l.length (at4 l 0) (at4 l 1) (at4 l 2) (at4 l 3) := rfl
  unfold Lib.decodeN at hd
  split at hd
  · exact .one ‹_› hd
  split at hd
  · split at hd
    · exact .two (by omega) (by omega) (by omega) hd
    · exact .none (by omega) (by omega) (by omega) (by omega) hd
  split at hd
  · split at hd
    · exact .three (by omega) (by omega) (by omega) (by omega) (by omega) (by omega) hd
    · exact .none (by omega) (by omega) (by omega) (by omega) hd
  split at hd
  · split at hd
    · exact .four (by omega) (by omega) (by omega) (by omega) (by omega) (by omega) (by omega) hd
    · exact .none (by omega) (by omega) (by omega) (by omega) hd
  · exact .none (by omega) (by omega) (by omega) (by omega) hd
theorem wd_pos (l : List UInt8) : 1 ≤ wd l := by rcases told l with ⟨_, h⟩ | ⟨_, _, _, h⟩ | ⟨_, _, _, _, _, _, h⟩ | ⟨_, _, _, _, _, _, _, h⟩ | ⟨_, _, _, _, h⟩ <;> simp [wd, h]
theorem wd_four (l : List UInt8) : wd l ≤ 4 := by rcases told l with ⟨_, h⟩ | ⟨_, _, _, h⟩ | ⟨_, _, _, _, _, _, h⟩ | ⟨_, _, _, _, _, _, _, h⟩ | ⟨_, _, _, _, h⟩ <;> simp [wd, h]
theorem wd_le (l : List UInt8) (hl : 1 ≤ l.length) : wd l ≤ l.length := by rcases told l with ⟨_, h⟩ | ⟨_, _, _, h⟩ | ⟨_, _, _, _, _, _, h⟩ | ⟨_, _, _, _, _, _, _, h⟩ | ⟨_, _, _, _, h⟩ <;> simp only [wd, h] <;> omega
theorem dec_max (l : List UInt8) : (dec l).1 ≤ 1114111 := by
  have a0 := at4_lt l 0
  rcases told l with ⟨_, h⟩ | ⟨_, _, _, h⟩ | ⟨_, _, _, _, _, _, h⟩ | ⟨_, _, _, _, _, _, _, h⟩ | ⟨_, _, _, _, h⟩ <;> simp only [h] <;> omega
theorem good_iff (l : List UInt8) : goodL l = true ↔ wd l ≠ 1 ∨ at4 l 0 < 128 := by simp [goodL]
theorem bad_is {l : List UInt8} (h : goodL l = false) : dec l = (65533, 1) ∧ 128 ≤ at4 l 0 := by
  have h' : ¬ (wd l ≠ 1 ∨ at4 l 0 < 128) := fun x => by rw [(good_iff l).2 x] at h; cases h
  rcases told l with ⟨_, e⟩ | ⟨_, _, _, e⟩ | ⟨_, _, _, _, _, _, e⟩ | ⟨_, _, _, _, _, _, _, e⟩ | ⟨_, _, _, _, e⟩
  · omega
  · rw [wd, e] at h'; simp at h'
  · rw [wd, e] at h'; simp at h'
  · rw [wd, e] at h'; simp at h'
  · exact ⟨e, ‹_›⟩
/-- what is told of a rune's bytes hangs on them alone -/
theorem dec_same {l l' : List UInt8} (hg : goodL l = true) (hn : wd l ≤ l'.length) (h : ∀ k, k < wd l → at4 l' k = at4 l k) : dec l' = dec l := by
  have b0 := at4_lt l' 0
  have a0 := at4_lt l 0
  have hg' := (good_iff l).1 hg
  rcases told l with ⟨q0, e⟩ | ⟨_, q0, q1, e⟩ | ⟨_, q0, q1, q2, qr, qs, e⟩ | ⟨_, q0, q1, q2, q3, qr, qs, e⟩ | ⟨q0, _, _, _, e⟩
  all_goals (have hw : wd l = (dec l).2 := rfl; rw [e] at hw; simp only at hw; rw [hw] at h hn)
  · have k0 := h 0 (by omega)
    rcases told l' with ⟨_, e'⟩ | ⟨_, _, _, e'⟩ | ⟨_, _, _, _, _, _, e'⟩ | ⟨_, _, _, _, _, _, _, e'⟩ | ⟨_, _, _, _, e'⟩
    · rw [e', e, k0]
    all_goals omega
  · have k0 := h 0 (by omega)
    have k1 := h 1 (by omega)
    rcases told l' with ⟨_, e'⟩ | ⟨_, _, _, e'⟩ | ⟨_, _, _, _, _, _, e'⟩ | ⟨_, _, _, _, _, _, _, e'⟩ | ⟨_, n2, n3, n4, e'⟩
    · omega
    · rw [e', e, k0, k1]
    · omega
    · omega
    · exact absurd (by omega) n2
  · have k0 := h 0 (by omega)
    have k1 := h 1 (by omega)
    have k2 := h 2 (by omega)
    rcases told l' with ⟨_, e'⟩ | ⟨_, _, _, e'⟩ | ⟨_, _, _, _, _, _, e'⟩ | ⟨_, _, _, _, _, _, _, e'⟩ | ⟨_, n2, n3, n4, e'⟩
    · omega
    · omega
    · rw [e', e, k0, k1, k2]
    · omega
    · rw [k0, k1, k2] at n3; exact absurd (by omega) n3
  · have k0 := h 0 (by omega)
    have k1 := h 1 (by omega)
    have k2 := h 2 (by omega)
    have k3 := h 3 (by omega)
    rcases told l' with ⟨_, e'⟩ | ⟨_, _, _, e'⟩ | ⟨_, _, _, _, _, _, e'⟩ | ⟨_, _, _, _, _, _, _, e'⟩ | ⟨_, n2, n3, n4, e'⟩
    · omega
    · omega
    · omega
    · rw [e', e, k0, k1, k2, k3]
    · rw [k0, k1, k2, k3] at n4; exact absurd (by omega) n4
  · rcases hg' with hh | hh
    · exact absurd hw hh
    · omega
theorem good_same {l l' : List UInt8} (hg : goodL l = true) (hn : wd l ≤ l'.length) (h : ∀ k, k < wd l → at4 l' k = at4 l k) : goodL l' = true := by
  have e := dec_same hg hn h
  have h0 := h 0 (wd_pos l)
  rw [good_iff, wd, e, h0]
  exact (good_iff l).1 hg
theorem dec_append {l : List UInt8} (r : List UInt8) (hl : 1 ≤ l.length) (hg : goodL l = true) : dec (l ++ r) = dec l := by
  have hw := wd_le l hl
  exact dec_same hg (by simp; omega) fun k hk => at4_append l r k (by omega)
theorem good_append {l : List UInt8} (r : List UInt8) (hl : 1 ≤ l.length) (hg : goodL l = true) : goodL (l ++ r) = true := by
  have hw := wd_le l hl
  exact good_same hg (by simp; omega) fun k hk => at4_append l r k (by omega)
theorem dec_chunk {l : List UInt8} (hl : 1 ≤ l.length) (hg : goodL l = true) : dec (l.take (wd l)) = dec l := by
  have hw := wd_le l hl
  exact dec_same hg (by simp; omega) fun k hk => at4_take l _ k hk
theorem good_chunk (l : List UInt8) (hl : 1 ≤ l.length) : goodL (l.take (wd l)) = goodL l := by
  have hw := wd_le l hl
  cases hg : goodL l
  · obtain ⟨e, h0⟩ := bad_is hg
    have hw1 : wd l = 1 := by rw [wd, e]
    obtain ⟨a, r, rfl⟩ : ∃ a r, l = a :: r := by cases l with | nil => simp at hl | cons a r => exact ⟨a, r, rfl⟩
    rw [hw1]
    show goodL [a] = false
    have ha : 128 ≤ at4 [a] 0 := h0
    rcases told [a] with ⟨_, e'⟩ | ⟨hn, _, _, e'⟩ | ⟨hn, _, _, _, _, _, e'⟩ | ⟨hn, _, _, _, _, _, _, e'⟩ | ⟨_, n2, n3, n4, e'⟩
    · omega
    · simp at hn
    · simp at hn
    · simp at hn
    · have : ¬ (wd [a] ≠ 1 ∨ at4 [a] 0 < 128) := by rw [wd, e']; simp; omega
      cases hh : goodL [a]
      · rfl
      · exact absurd ((good_iff [a]).1 hh) this
  · exact good_same hg (by simp; omega) fun k hk => at4_take l _ k hk

/-! ### chunks -/
def chopF : Nat → List UInt8 → List (List UInt8)
  | 0, _ => []
  | n + 1, l => if l.isEmpty then [] else l.take (wd l) :: chopF n (l.drop (wd l))
def chop (l : List UInt8) : List (List UInt8) := chopF l.length l
theorem chopF_nil (n : Nat) : chopF n [] = [] := by cases n <;> rfl
theorem chopF_fuel : ∀ (n m : Nat) (l : List UInt8), l.length ≤ n → l.length ≤ m → chopF n l = chopF m l
  | 0, m, l, h, h' => by
    have : l = [] := List.eq_nil_of_length_eq_zero (by omega)
    subst this; rw [chopF_nil, chopF_nil]
  | n + 1, 0, l, h, h' => by
    have : l = [] := List.eq_nil_of_length_eq_zero (by omega)
    subst this; rw [chopF_nil, chopF_nil]
  | n + 1, m + 1, l, h, h' => by
    simp only [chopF]
    cases l with
    | nil => rfl
    | cons a r =>
      have := wd_pos (a :: r)
      rw [chopF_fuel n m _ (by rw [List.length_drop]; simp at h ⊢; omega) (by rw [List.length_drop]; simp at h' ⊢; omega)]
theorem chop_nil : chop [] = [] := rfl
theorem chop_cons (l : List UInt8) (hl : 1 ≤ l.length) : chop l = l.take (wd l) :: chop (l.drop (wd l)) := by
  have := wd_pos l
  obtain ⟨a, r, rfl⟩ : ∃ a r, l = a :: r := by cases l with | nil => simp at hl | cons a r => exact ⟨a, r, rfl⟩
  show chopF (r.length + 1) (a :: r) = _
  simp only [chopF, List.isEmpty_cons, Bool.false_eq_true, if_false]
  rw [chop, chopF_fuel r.length _ _ (by rw [List.length_drop]; simp; omega) (Nat.le_refl _)]
/-- by chunks -/
theorem chop_ind {p : List UInt8 → Prop} (h0 : p []) (h1 : ∀ l, 1 ≤ l.length → p (l.drop (wd l)) → p l) (l : List UInt8) : p l := by
  suffices h : ∀ n l, l.length ≤ n → p l from h _ l (Nat.le_refl _)
  intro n
  induction n with
  | zero =>
    intro l hl
    have : l = [] := List.eq_nil_of_length_eq_zero (by omega)
    subst this; exact h0
  | succ n ih =>
    intro l hl
    rcases Nat.eq_zero_or_pos l.length with hz | hz
    · have : l = [] := List.eq_nil_of_length_eq_zero hz
      subst this; exact h0
    · have := wd_pos l
      exact h1 l hz (ih _ (by rw [List.length_drop]; omega))
def okT (l : List UInt8) : Bool := (chop l).all goodL
def cntT (l : List UInt8) : Nat := (chop l).length
def escB (c : List UInt8) : List UInt8 :=
  if c = [38] then [38, 97, 109, 112, 59] else if c = [60] then [38, 108, 116, 59] else if c = [62] then [38, 103, 116, 59] else if c = [34] then [38, 35, 51, 52, 59] else if c = [39] then [38, 35, 51, 57, 59] else c
def escC (c : List UInt8) : List UInt8 := if goodL c = true then escB c else [63]
def escT (l : List UInt8) : List UInt8 := (chop l).flatMap escC
theorem okT_nil : okT [] = true := rfl
theorem cntT_nil : cntT [] = 0 := rfl
theorem escT_nil : escT [] = [] := rfl
theorem okT_cons (l : List UInt8) (hl : 1 ≤ l.length) : okT l = (goodL l && okT (l.drop (wd l))) := by
  rw [okT, chop_cons l hl, List.all_cons, good_chunk l hl]; rfl
theorem cntT_cons (l : List UInt8) (hl : 1 ≤ l.length) : cntT l = cntT (l.drop (wd l)) + 1 := by
  rw [cntT, chop_cons l hl, List.length_cons]; rfl
theorem escT_cons (l : List UInt8) (hl : 1 ≤ l.length) : escT l = escC (l.take (wd l)) ++ escT (l.drop (wd l)) := by
  rw [escT, chop_cons l hl, List.flatMap_cons]; rfl
/-- may each rune be, at the byte where it begins? -/
def eachF (may : Nat → Nat → Bool) : Nat → Nat → List UInt8 → Bool
  | 0, _, _ => true
  | n + 1, k, l => if l.isEmpty then true else goodL l && may k (dec l).1 && eachF may n (k + wd l) (l.drop (wd l))
def eachT (may : Nat → Nat → Bool) (k : Nat) (l : List UInt8) : Bool := eachF may l.length k l
theorem eachF_nil (may : Nat → Nat → Bool) (n k : Nat) : eachF may n k [] = true := by cases n <;> rfl
theorem eachF_fuel (may : Nat → Nat → Bool) : ∀ (n m k : Nat) (l : List UInt8), l.length ≤ n → l.length ≤ m → eachF may n k l = eachF may m k l
  | 0, m, k, l, h, h' => by
    have : l = [] := List.eq_nil_of_length_eq_zero (by omega)
    subst this; rw [eachF_nil, eachF_nil]
  | n + 1, 0, k, l, h, h' => by
    have : l = [] := List.eq_nil_of_length_eq_zero (by omega)
    subst this; rw [eachF_nil, eachF_nil]
  | n + 1, m + 1, k, l, h, h' => by
    simp only [eachF]
    cases l with
    | nil => rfl
    | cons a r =>
      have := wd_pos (a :: r)
      rw [eachF_fuel may n m _ _ (by rw [List.length_drop]; simp at h ⊢; omega) (by rw [List.length_drop]; simp at h' ⊢; omega)]
theorem eachT_nil (may : Nat → Nat → Bool) (k : Nat) : eachT may k [] = true := rfl
theorem eachT_cons (may : Nat → Nat → Bool) (k : Nat) (l : List UInt8) (hl : 1 ≤ l.length) : eachT may k l = (goodL l && may k (dec l).1 && eachT may (k + wd l) (l.drop (wd l))) := by
  have := wd_pos l
  obtain ⟨a, r, rfl⟩ : ∃ a r, l = a :: r := by cases l with | nil => simp at hl | cons a r => exact ⟨a, r, rfl⟩
  show eachF may (r.length + 1) k (a :: r) = _
  simp only [eachF, List.isEmpty_cons, Bool.false_eq_true, if_false]
  rw [eachT, eachF_fuel may r.length _ _ _ (by rw [List.length_drop]; simp; omega) (Nat.le_refl _)]
theorem cntT_le (l : List UInt8) : cntT l ≤ l.length := by
  refine chop_ind (p := fun l => cntT l ≤ l.length) (Nat.le_refl _) (fun l hl ih => ?_) l
  rw [cntT_cons l hl]
  have := wd_pos l
  rw [List.length_drop] at ih
  omega
theorem chop_append (a b : List UInt8) (h : okT a = true) : chop (a ++ b) = chop a ++ chop b := by
  revert h
  refine chop_ind (p := fun a => okT a = true → chop (a ++ b) = chop a ++ chop b) (fun _ => by simp [chop_nil]) (fun l hl ih h => ?_) a
  rw [okT_cons l hl, Bool.and_eq_true] at h
  have hw := wd_le l hl
  have e : wd (l ++ b) = wd l := by rw [wd, dec_append b hl h.1]; rfl
  rw [chop_cons (l ++ b) (by simp; omega), e, List.take_append_of_le_length hw, List.drop_append_of_le_length hw, ih h.2, chop_cons l hl]
  rfl
theorem okT_append (a b : List UInt8) (h : okT a = true) : okT (a ++ b) = okT b := by
  rw [okT, chop_append a b h, List.all_append]
  rw [okT] at h
  rw [h]; rfl
theorem cntT_append (a b : List UInt8) (h : okT a = true) : cntT (a ++ b) = cntT a + cntT b := by rw [cntT, chop_append a b h, List.length_append]; rfl
theorem escT_append (a b : List UInt8) (h : okT a = true) : escT (a ++ b) = escT a ++ escT b := by rw [escT, chop_append a b h, List.flatMap_append]; rfl
theorem mem_at4 {l : List UInt8} {b : UInt8} (h : b ∈ l) : ∃ k, k < l.length ∧ at4 l k = b.toNat := by
  obtain ⟨k, hk, e⟩ := List.getElem_of_mem h
  exact ⟨k, hk, by simp [at4, List.getD, hk, e]⟩
/-- a chunk that is good: one sign below 128, or bytes of 128 to 244 -/
theorem good_bytes (l : List UInt8) (hl : 1 ≤ l.length) (hg : goodL l = true) : (∃ b : UInt8, l.take (wd l) = [b] ∧ b.toNat < 128 ∧ dec l = (b.toNat, 1)) ∨ (2 ≤ wd l ∧ 128 ≤ (dec l).1 ∧ ∀ b ∈ l.take (wd l), 128 ≤ b.toNat ∧ b.toNat ≤ 244) := by
  have hw := wd_le l hl
  have key : ∀ m, wd l = m → (∀ k, k < m → 128 ≤ at4 l k ∧ at4 l k ≤ 244) → ∀ b ∈ l.take (wd l), 128 ≤ b.toNat ∧ b.toNat ≤ 244 := by
    intro m hm h b hb
    obtain ⟨k, hk, e⟩ := mem_at4 hb
    rw [List.length_take] at hk
    rw [at4_take l _ k (by omega)] at e
    rw [← e]
    exact h k (by omega)
  have c0 := at4_lt l 0
  have c1 := at4_lt l 1
  have c2 := at4_lt l 2
  have c3 := at4_lt l 3
  rcases told l with ⟨q0, e⟩ | ⟨_, q0, q1, e⟩ | ⟨_, q0, q1, q2, qr, qs, e⟩ | ⟨_, q0, q1, q2, q3, qr, qs, e⟩ | ⟨q0, _, _, _, e⟩
  · left
    obtain ⟨a, r, rfl⟩ : ∃ a r, l = a :: r := by cases l with | nil => simp at hl | cons a r => exact ⟨a, r, rfl⟩
    exact ⟨a, by rw [wd, e]; rfl, q0, e⟩
  · right
    refine ⟨by rw [wd, e]; simp, by rw [e]; simp only; omega, key 2 (by rw [wd, e]) fun k hk => ?_⟩
    match k, hk with
    | 0, _ => omega
    | 1, _ => omega
  · right
    refine ⟨by rw [wd, e]; simp, by rw [e]; simp only; omega, key 3 (by rw [wd, e]) fun k hk => ?_⟩
    match k, hk with
    | 0, _ => omega
    | 1, _ => omega
    | 2, _ => omega
  · right
    refine ⟨by rw [wd, e]; simp, by rw [e]; simp only; omega, key 4 (by rw [wd, e]) fun k hk => ?_⟩
    match k, hk with
    | 0, _ => omega
    | 1, _ => omega
    | 2, _ => omega
    | 3, _ => omega
  · rw [good_iff, wd, e] at hg
    rcases hg with h | h
    · exact absurd rfl h
    · omega
theorem len2 (l : List UInt8) (h : 2 ≤ l.length) : ∃ a b r, l = a :: b :: r := by
  match l, h with
  | a :: b :: r, _ => exact ⟨a, b, r, rfl⟩
theorem len3 (l : List UInt8) (h : 3 ≤ l.length) : ∃ a b c r, l = a :: b :: c :: r := by
  match l, h with
  | a :: b :: c :: r, _ => exact ⟨a, b, c, r, rfl⟩
theorem len4 (l : List UInt8) (h : 4 ≤ l.length) : ∃ a b c d r, l = a :: b :: c :: d :: r := by
  match l, h with
  | a :: b :: c :: d :: r, _ => exact ⟨a, b, c, d, r, rfl⟩
theorem ofn (a : UInt8) (n : Nat) (h : a.toNat = n) : UInt8.ofNat n = a := by rw [← h]; simp
/-- is it not a rune, but the rune that stands for one? -/
theorem broken_iff (l : List UInt8) (hl : 1 ≤ l.length) : (decide ((dec l).1 = 65533) && !decide (3 ≤ l.length ∧ l.take 3 = [239, 191, 189])) = !goodL l := by
  have c0 := at4_lt l 0
  have c1 := at4_lt l 1
  have c2 := at4_lt l 2
  have c3 := at4_lt l 3
  cases hg : goodL l
  · obtain ⟨e, h0⟩ := bad_is hg
    rw [e]
    have : ¬ (3 ≤ l.length ∧ l.take 3 = [239, 191, 189]) := by
      rintro ⟨h3, ht⟩
      have k0 : at4 l 0 = 239 := by rw [← at4_take l 3 0 (by omega), ht]; rfl
      have k1 : at4 l 1 = 191 := by rw [← at4_take l 3 1 (by omega), ht]; rfl
      have k2 : at4 l 2 = 189 := by rw [← at4_take l 3 2 (by omega), ht]; rfl
      rcases told l with ⟨q0, e'⟩ | ⟨_, q0, q1, e'⟩ | ⟨_, q0, q1, q2, qr, qs, e'⟩ | ⟨_, q0, q1, q2, q3, qr, qs, e'⟩ | ⟨q0, n2, n3, n4, e'⟩
      · omega
      · omega
      · rw [e'] at e; simp at e
      · omega
      · rw [k0, k1, k2] at n3; exact absurd (by omega) n3
    simp [this]
  · by_cases hr : (dec l).1 = 65533
    · have : 3 ≤ l.length ∧ l.take 3 = [239, 191, 189] := by
        rcases told l with ⟨q0, e'⟩ | ⟨_, q0, q1, e'⟩ | ⟨hn, q0, q1, q2, qr, qs, e'⟩ | ⟨_, q0, q1, q2, q3, qr, qs, e'⟩ | ⟨q0, n2, n3, n4, e'⟩
        · rw [e'] at hr; simp only at hr; omega
        · rw [e'] at hr; simp only at hr; omega
        · rw [e'] at hr; simp only at hr
          refine ⟨hn, ?_⟩
          obtain ⟨a, b, c, r, rfl⟩ := len3 l hn
          have m0 : at4 (a :: b :: c :: r) 0 = a.toNat := rfl
          have m1 : at4 (a :: b :: c :: r) 1 = b.toNat := rfl
          have m2 : at4 (a :: b :: c :: r) 2 = c.toNat := rfl
          rw [m0] at q0 hr c0; rw [m1] at q1 hr c1; rw [m2] at q2 hr c2
          have j0 : UInt8.ofNat 239 = a := ofn _ _ (by omega)
          have j1 : UInt8.ofNat 191 = b := ofn _ _ (by omega)
          have j2 : UInt8.ofNat 189 = c := ofn _ _ (by omega)
          rw [← j0, ← j1, ← j2]; rfl
        · rw [e'] at hr; simp only at hr; omega
        · rw [good_iff, wd, e'] at hg
          rcases hg with h | h
          · exact absurd rfl h
          · omega
      simp [this]
    · simp [hr]
/-- a rune is written as it was -/
theorem encode_dec (l : List UInt8) (hl : 1 ≤ l.length) (hg : goodL l = true) : Utf8.encode ((dec l).1 : Int) = strOf (l.take (wd l)) := by
  rcases told l with ⟨q0, e⟩ | ⟨hn, q0, q1, e⟩ | ⟨hn, q0, q1, q2, qr, qs, e⟩ | ⟨hn, q0, q1, q2, q3, qr, qs, e⟩ | ⟨q0, _, _, _, e⟩
  · obtain ⟨a, r, rfl⟩ : ∃ a r, l = a :: r := by cases l with | nil => simp at hl | cons a r => exact ⟨a, r, rfl⟩
    have hv : Utf8.valid ((at4 (a :: r) 0 : Nat) : Int) = true := by simp [Utf8.valid]; omega
    rw [wd, e]
    simp only [Utf8.encode, hv, if_true, Int.toNat_natCast]
    rw [if_pos q0, ofn a (at4 (a :: r) 0) rfl]
    rfl
  · obtain ⟨a, b, r, rfl⟩ := len2 l hn
    have ha : at4 (a :: b :: r) 0 = a.toNat := rfl
    have hb : at4 (a :: b :: r) 1 = b.toNat := rfl
    rw [wd, e]
    simp only
    rw [ha] at q0 ⊢; rw [hb] at q1 ⊢
    have a9 := a.toNat_lt
    have b9 := b.toNat_lt
    have hv : Utf8.valid ((a.toNat % 32 * 64 + b.toNat % 64 : Nat) : Int) = true := by simp only [Utf8.valid, Bool.or_eq_true, Bool.and_eq_true, decide_eq_true_eq]; omega
    simp only [Utf8.encode, hv, if_true, Int.toNat_natCast]
    rw [if_neg (by omega), if_pos (by omega), ofn a _ (by omega), ofn b _ (by omega)]
    rfl
  · obtain ⟨a, b, c, r, rfl⟩ := len3 l hn
    have ha : at4 (a :: b :: c :: r) 0 = a.toNat := rfl
    have hb : at4 (a :: b :: c :: r) 1 = b.toNat := rfl
    have hc : at4 (a :: b :: c :: r) 2 = c.toNat := rfl
    rw [wd, e]
    simp only
    rw [ha] at q0 qr qs ⊢; rw [hb] at q1 qr qs ⊢; rw [hc] at q2 qr qs ⊢
    have a9 := a.toNat_lt
    have b9 := b.toNat_lt
    have c9 := c.toNat_lt
    have hv : Utf8.valid ((a.toNat % 16 * 4096 + b.toNat % 64 * 64 + c.toNat % 64 : Nat) : Int) = true := by simp only [Utf8.valid, Bool.or_eq_true, Bool.and_eq_true, decide_eq_true_eq]; omega
    simp only [Utf8.encode, hv, if_true, Int.toNat_natCast]
    rw [if_neg (by omega), if_neg (by omega), if_pos (by omega), ofn a _ (by omega), ofn b _ (by omega), ofn c _ (by omega)]
    rfl
  · obtain ⟨a, b, c, d, r, rfl⟩ := len4 l hn
    have ha : at4 (a :: b :: c :: d :: r) 0 = a.toNat := rfl
    have hb : at4 (a :: b :: c :: d :: r) 1 = b.toNat := rfl
    have hc : at4 (a :: b :: c :: d :: r) 2 = c.toNat := rfl
    have hd : at4 (a :: b :: c :: d :: r) 3 = d.toNat := rfl
    rw [wd, e]
    simp only
    rw [ha] at q0 qr qs ⊢; rw [hb] at q1 qr qs ⊢; rw [hc] at q2 qr qs ⊢; rw [hd] at q3 qr qs ⊢
    have a9 := a.toNat_lt
    have b9 := b.toNat_lt
    have c9 := c.toNat_lt
    have d9 := d.toNat_lt
    have hv : Utf8.valid ((a.toNat % 8 * 262144 + b.toNat % 64 * 4096 + c.toNat % 64 * 64 + d.toNat % 64 : Nat) : Int) = true := by simp only [Utf8.valid, Bool.or_eq_true, Bool.and_eq_true, decide_eq_true_eq]; omega
    simp only [Utf8.encode, hv, if_true, Int.toNat_natCast]
    rw [if_neg (by omega), if_neg (by omega), if_neg (by omega), ofn a _ (by omega), ofn b _ (by omega), ofn c _ (by omega), ofn d _ (by omega)]
    rfl
  · rw [good_iff, wd, e] at hg
    rcases hg with h | h
    · exact absurd rfl h
    · omega
end Go.Proofs.YtjfmlfakdijfjaaDoor
