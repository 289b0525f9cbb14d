/- Plain facts on hexadecimal digits: there and back, the order of texts; nothing of the program is in it. -/
import Derived.Test.YtmhiclangfhhcaaPlain
namespace Go.Proofs.Ytmhiclangfhhcaa
set_option linter.unusedVariables false

/-- the digit of a number below sixteen -/
def hexD (n : Nat) : UInt8 := if n < 10 then UInt8.ofNat (48 + n) else UInt8.ofNat (87 + n)
/-- bytes as digits -/
def hexL : List UInt8 → List UInt8
  | [] => []
  | b :: r => hexD (b.toNat / 16) :: hexD (b.toNat % 16) :: hexL r
/-- is it a digit? -/
def isHex (c : UInt8) : Bool := (decide (48 ≤ c.toNat) && decide (c.toNat ≤ 57)) || (decide (97 ≤ c.toNat) && decide (c.toNat ≤ 102))
/-- what a digit means -/
def hexV (c : UInt8) : Nat := if c.toNat ≤ 57 then c.toNat - 48 else c.toNat - 87
/-- digits as bytes -/
def unL : List UInt8 → List UInt8
  | a :: b :: r => UInt8.ofNat (16 * hexV a + hexV b) :: unL r
  | _ => []
/-- are they digits, two for each byte? -/
def okL (s : List UInt8) : Bool := decide (s.length % 2 = 0) && s.all isHex

theorem hexL_append (a b : List UInt8) : hexL (a ++ b) = hexL a ++ hexL b := by
  induction a with
  | nil => rfl
  | cons x a ih => simp [hexL, ih]
theorem hexL_length (a : List UInt8) : (hexL a).length = 2 * a.length := by
  induction a with
  | nil => rfl
  | cons x a ih => simp [hexL, ih]; omega
theorem hexL_take (bs : List UInt8) (j : Nat) (h : j < bs.length) : hexL (bs.take (j + 1)) = hexL (bs.take j) ++ [hexD ((bs[j]).toNat / 16), hexD ((bs[j]).toNat % 16)] := by
  rw [List.take_succ_eq_append_getElem h, hexL_append]; rfl
theorem hexD_facts (n : Nat) (h : n < 16) : isHex (hexD n) = true ∧ hexV (hexD n) = n := by
  have : ∀ k : Fin 16, isHex (hexD k.val) = true ∧ hexV (hexD k.val) = k.val := by decide
  exact this ⟨n, h⟩
theorem hexV_facts (c : UInt8) (h : isHex c = true) : hexV c < 16 ∧ hexD (hexV c) = c := by
  have : ∀ k : Fin 256, isHex (UInt8.ofNat k.val) = true → hexV (UInt8.ofNat k.val) < 16 ∧ hexD (hexV (UInt8.ofNat k.val)) = UInt8.ofNat k.val := by decide +kernel
  have h1 := this ⟨c.toNat, c.toNat_lt⟩
  simp only [UInt8.ofNat_toNat] at h1
  exact h1 h
theorem hexL_all (a : List UInt8) : (hexL a).all isHex = true := by
  induction a with
  | nil => rfl
  | cons x a ih =>
    have hx := x.toNat_lt
    simp only [hexL, List.all_cons, ih, (hexD_facts (x.toNat / 16) (by omega)).1, (hexD_facts (x.toNat % 16) (by omega)).1]
    rfl
theorem okL_hexL (a : List UInt8) : okL (hexL a) = true := by
  rw [okL, hexL_all, hexL_length, Bool.and_true, decide_eq_true_eq]; omega
theorem unL_hexL (a : List UInt8) : unL (hexL a) = a := by
  induction a with
  | nil => rfl
  | cons x a ih =>
    have hx := x.toNat_lt
    rw [hexL, unL, ih, (hexD_facts (x.toNat / 16) (by omega)).2, (hexD_facts (x.toNat % 16) (by omega)).2]
    congr 1
    rw [show 16 * (x.toNat / 16) + x.toNat % 16 = x.toNat by omega, UInt8.ofNat_toNat]
theorem okL_cons (a b : UInt8) (r : List UInt8) : okL (a :: b :: r) = (isHex a && (isHex b && okL r)) := by
  simp only [okL, List.length_cons, List.all_cons]
  have : decide ((r.length + 1 + 1) % 2 = 0) = decide (r.length % 2 = 0) := by rw [decide_eq_decide]; omega
  rw [this]
  cases isHex a <;> cases isHex b <;> simp
theorem two_ind {p : List UInt8 → Prop} (h0 : p []) (h1 : ∀ a, p [a]) (h2 : ∀ a b r, p r → p (a :: b :: r)) : ∀ l, p l
  | [] => h0
  | [a] => h1 a
  | a :: b :: r => h2 a b r (two_ind h0 h1 h2 r)
theorem hexL_unL (s : List UInt8) : okL s = true → hexL (unL s) = s := by
  induction s using two_ind with
  | h0 => intro _; rfl
  | h1 a => intro h; simp [okL] at h
  | h2 a b r ih =>
    intro h
    rw [okL_cons, Bool.and_eq_true, Bool.and_eq_true] at h
    obtain ⟨ha, hb, hr⟩ := h
    obtain ⟨ha1, ha2⟩ := hexV_facts a ha
    obtain ⟨hb1, hb2⟩ := hexV_facts b hb
    have e : (UInt8.ofNat (16 * hexV a + hexV b)).toNat = 16 * hexV a + hexV b := by rw [UInt8.toNat_ofNat']; omega
    rw [unL, hexL, e, ih hr, show (16 * hexV a + hexV b) / 16 = hexV a by omega, show (16 * hexV a + hexV b) % 16 = hexV b by omega, ha2, hb2]
theorem unL_length (s : List UInt8) : (unL s).length = s.length / 2 := by
  induction s using two_ind with
  | h0 => rfl
  | h1 a => simp [unL]
  | h2 a b r ih => simp only [unL, List.length_cons, ih]; omega
theorem unL_at (s : List UInt8) : ∀ j, 2 * j + 1 < s.length → (unL s)[j]? = some (UInt8.ofNat (16 * hexV (s.getD (2 * j) 0) + hexV (s.getD (2 * j + 1) 0))) := by
  induction s using two_ind with
  | h0 => intro j h; simp at h
  | h1 a => intro j h; simp at h
  | h2 a b r ih =>
    intro j h
    cases j with
    | zero => rfl
    | succ j =>
      rw [unL, List.getElem?_cons_succ, ih j (by simp only [List.length_cons] at h; omega)]
      simp [Nat.mul_succ]
theorem unL_snoc (s : List UInt8) (a b : UInt8) (h : s.length % 2 = 0) : unL (s ++ [a, b]) = unL s ++ [UInt8.ofNat (16 * hexV a + hexV b)] := by
  induction s using two_ind with
  | h0 => rfl
  | h1 a => simp at h
  | h2 x y r ih =>
    have := ih (by simp only [List.length_cons] at h; omega)
    simp only [List.cons_append, unL, this]
theorem hexL_inj {a b : List UInt8} (h : hexL a = hexL b) : a = b := by
  rw [← unL_hexL a, ← unL_hexL b, h]
theorem isHex_iff (c : UInt8) : isHex c = true ↔ (48 ≤ c.toNat ∧ c.toNat ≤ 57) ∨ (97 ≤ c.toNat ∧ c.toNat ≤ 102) := by simp [isHex]
theorem okL_even (s : List UInt8) (h : okL s = true) : s.length % 2 = 0 := by
  rw [okL, Bool.and_eq_true, decide_eq_true_eq] at h; exact h.1
theorem okL_all (s : List UInt8) (h : okL s = true) : s.all isHex = true := by
  rw [okL, Bool.and_eq_true] at h; exact h.2
theorem okL_odd (s : List UInt8) (h : s.length % 2 = 1) : okL s = false := by
  rw [okL, decide_eq_false (by omega)]; rfl
/-- a sign that is none -/
theorem okL_bad (s : List UInt8) (k : Nat) (hk : k < s.length) (h : isHex s[k] = false) : okL s = false := by
  have : ¬ s.all isHex = true := fun ha => by
    rw [List.all_eq_true] at ha
    rw [ha s[k] (List.getElem_mem hk)] at h
    cases h
  rw [okL, Bool.eq_false_iff.2 this, Bool.and_false]

/-- the row in the midst of Bytes: k digits are in -/
def halfV (s : List UInt8) (k j : Nat) : Nat := if k ≤ 2 * j then 0 else if k = 2 * j + 1 then hexV (s.getD (2 * j) 0) else 16 * hexV (s.getD (2 * j) 0) + hexV (s.getD (2 * j + 1) 0)
def halfL (s : List UInt8) (k : Nat) : List UInt8 := (List.range (s.length / 2)).map fun j => UInt8.ofNat (halfV s k j)
theorem halfL_length (s : List UInt8) (k : Nat) : (halfL s k).length = s.length / 2 := by simp [halfL]
theorem halfL_zero (s : List UInt8) : halfL s 0 = List.replicate (s.length / 2) 0 := by
  refine List.ext_getElem (by simp [halfL]) fun i h1 h2 => ?_
  simp [halfL, halfV]
theorem halfL_at (s : List UInt8) (k j : Nat) (h : j < s.length / 2) : (halfL s k)[j]? = some (UInt8.ofNat (halfV s k j)) := by
  simp [halfL, h]
theorem halfL_all (s : List UInt8) (h : s.length % 2 = 0) : halfL s s.length = unL s := by
  refine List.ext_getElem? fun j => ?_
  by_cases hj : j < s.length / 2
  · rw [halfL_at s _ j hj, unL_at s j (by omega), halfV, if_neg (by omega), if_neg (by omega)]
  · rw [List.getElem?_eq_none (by rw [halfL_length]; omega), List.getElem?_eq_none (by rw [unL_length]; omega)]
theorem halfL_set (s : List UInt8) (k : Nat) (hk : k < s.length) (he : s.length % 2 = 0) : (halfL s k).set (k / 2) (UInt8.ofNat (halfV s (k + 1) (k / 2))) = halfL s (k + 1) := by
  refine List.ext_getElem? fun j => ?_
  by_cases hj : j < s.length / 2
  · rw [halfL_at s _ j hj]
    by_cases hjk : k / 2 = j
    · subst hjk
      rw [List.getElem?_set_self (by rw [halfL_length]; exact hj)]
    · rw [List.getElem?_set_ne hjk, halfL_at s _ j hj]
      congr 2
      unfold halfV
      by_cases h1 : k ≤ 2 * j
      · rw [if_pos h1, if_pos (by omega)]
      · rw [if_neg h1, if_neg (by omega), if_neg (by omega), if_neg (by omega)]
  · rw [List.getElem?_eq_none (by rw [List.length_set, halfL_length]; omega), List.getElem?_eq_none (by rw [halfL_length]; omega)]
theorem halfV_next (s : List UInt8) (k : Nat) (hk : k < s.length) (h : s.all isHex = true) : halfV s k (k / 2) < 16 ∧ halfV s (k + 1) (k / 2) = 16 * halfV s k (k / 2) + hexV s[k] ∧ halfV s (k + 1) (k / 2) < 256 := by
  have hh : ∀ i, hexV (s.getD i 0) < 16 ∨ s.length ≤ i := fun i => by
    by_cases hi : i < s.length
    · left
      have := hexV_facts s[i] (List.all_eq_true.1 h _ (List.getElem_mem hi))
      simpa [List.getD, hi] using this.1
    · right; omega
  have e : s.getD k 0 = s[k] := by simp [List.getD, hk]
  rcases Nat.mod_two_eq_zero_or_one k with h2 | h2
  · have e2 : 2 * (k / 2) = k := by omega
    unfold halfV
    rw [if_pos (by omega), if_neg (by omega), if_pos (by omega), e2, e]
    have := hh k; rw [e] at this
    omega
  · have e2 : 2 * (k / 2) + 1 = k := by omega
    have e3 : 2 * (k / 2) = k - 1 := by omega
    unfold halfV
    rw [if_neg (by omega), if_pos (by omega), if_neg (by omega), if_neg (by omega), e2, e3, e]
    have h1 := hh k; rw [e] at h1
    have h0 := hh (k - 1)
    omega
/-- a front with digits alone -/
theorem halfV_next' (s : List UInt8) (k : Nat) (hk : k < s.length) (h : (s.take (k + 1)).all isHex = true) : halfV s k (k / 2) < 16 ∧ halfV s (k + 1) (k / 2) = 16 * halfV s k (k / 2) + hexV s[k] ∧ halfV s (k + 1) (k / 2) < 256 := by
  have hh : ∀ i, i ≤ k → hexV (s.getD i 0) < 16 := fun i hi => by
    have hm : s.getD i 0 ∈ s.take (k + 1) := by
      have : (s.take (k + 1))[i]? = some (s.getD i 0) := by
        rw [List.getElem?_take, if_pos (by omega)]
        simp [List.getD, show i < s.length by omega]
      exact List.mem_of_getElem? this
    exact (hexV_facts _ (List.all_eq_true.1 h _ hm)).1
  have e : s.getD k 0 = s[k] := by simp [List.getD, hk]
  rcases Nat.mod_two_eq_zero_or_one k with h2 | h2
  · have e2 : 2 * (k / 2) = k := by omega
    unfold halfV
    rw [if_pos (by omega), if_neg (by omega), if_pos (by omega), e2, e]
    have := hh k (by omega); rw [e] at this
    omega
  · have e2 : 2 * (k / 2) + 1 = k := by omega
    have e3 : 2 * (k / 2) = k - 1 := by omega
    unfold halfV
    rw [if_neg (by omega), if_pos (by omega), if_neg (by omega), if_neg (by omega), e2, e3, e]
    have h1 := hh k (by omega); rw [e] at h1
    have h0 := hh (k - 1) (by omega)
    omega
theorem all_take_succ (s : List UInt8) (k : Nat) (hk : k < s.length) (p : UInt8 → Bool) : (s.take (k + 1)).all p = ((s.take k).all p && p s[k]) := by
  rw [List.take_succ_eq_append_getElem hk, List.all_append]; simp

/-- with another byte in its midst -/
def spoilL (l : List UInt8) (i : Nat) (c : UInt8) : List UInt8 := l.take i ++ c :: l.drop (i + 1)
theorem spoilL_len (l : List UInt8) (i : Nat) (c : UInt8) (h : i < l.length) : (spoilL l i c).length = l.length := by
  simp [spoilL]; omega
theorem okL_spoil (l : List UInt8) (i : Nat) (c : UInt8) (h : i < l.length) (hl : okL l = true) : okL (spoilL l i c) = isHex c := by
  have ha := okL_all l hl
  rw [List.all_eq_true] at ha
  have h1 : (l.take i).all isHex = true := by rw [List.all_eq_true]; exact fun x hx => ha x (List.mem_of_mem_take hx)
  have h2 : (l.drop (i + 1)).all isHex = true := by rw [List.all_eq_true]; exact fun x hx => ha x (List.mem_of_mem_drop hx)
  rw [okL, spoilL_len l i c h, decide_eq_true (okL_even l hl), spoilL, List.all_append, List.all_cons, h1, h2]
  simp
/-- with a byte taken out -/
theorem okL_less (l : List UInt8) (i : Nat) (h : i < l.length) (hl : okL l = true) : okL (l.take i ++ l.drop (i + 1)) = false := by
  refine okL_odd _ ?_
  have := okL_even l hl
  simp only [List.length_append, List.length_take, List.length_drop]
  omega
theorem hexD_lt {m n : Nat} (hm : m < 16) (hn : n < 16) : (hexD m < hexD n) = (m < n) := by
  have : ∀ a b : Fin 16, decide (hexD a.val < hexD b.val) = decide (a.val < b.val) := by decide
  have h := this ⟨m, hm⟩ ⟨n, hn⟩
  simpa using h
theorem hexD_eq {m n : Nat} (hm : m < 16) (hn : n < 16) : (hexD m == hexD n) = (m == n) := by
  have : ∀ a b : Fin 16, (hexD a.val == hexD b.val) = (a.val == b.val) := by decide
  exact this ⟨m, hm⟩ ⟨n, hn⟩
theorem less_hexL (a b : List UInt8) (h : a.length = b.length) : Op.bytesLess (hexL a) (hexL b) = Op.bytesLess a b := by
  induction a generalizing b with
  | nil =>
    cases b with
    | nil => rfl
    | cons y b => simp at h
  | cons x a ih =>
    cases b with
    | nil => simp at h
    | cons y b =>
      have hx := x.toNat_lt
      have hy := y.toNat_lt
      simp only [hexL, Op.bytesLess, ih b (by simpa using h), hexD_lt (show x.toNat / 16 < 16 by omega) (show y.toNat / 16 < 16 by omega), hexD_lt (show x.toNat % 16 < 16 by omega) (show y.toNat % 16 < 16 by omega),
        hexD_eq (show x.toNat / 16 < 16 by omega) (show y.toNat / 16 < 16 by omega), hexD_eq (show x.toNat % 16 < 16 by omega) (show y.toNat % 16 < 16 by omega)]
      have e1 : decide (x < y) = decide (x.toNat < y.toNat) := decide_eq_decide.2 UInt8.lt_iff_toNat_lt
      have e2 : (x == y) = (x.toNat == y.toNat) := by
        by_cases hxy : x = y
        · subst hxy; simp
        · have : x.toNat ≠ y.toNat := fun hh => hxy (UInt8.toNat_inj.1 hh)
          rw [beq_eq_false_iff_ne.2 hxy, beq_eq_false_iff_ne.2 this]
      rw [e1, e2]
      generalize Op.bytesLess a b = r
      generalize x.toNat = m at *
      generalize y.toNat = n at *
      rcases Nat.lt_trichotomy m n with hh | hh | hh
      · by_cases hq : m / 16 < n / 16
        · simp [hq, hh]
        · have h1 : m / 16 = n / 16 := by omega
          have h2 : m % 16 < n % 16 := by omega
          simp [h1, h2, hh]
      · subst hh; simp
      · by_cases hq : n / 16 < m / 16
        · have h1 : ¬ m / 16 < n / 16 := by omega
          have h3 : ¬ m < n := by omega
          have h4 : (m == n) = false := by simp; omega
          have h5 : (m / 16 == n / 16) = false := by simp; omega
          simp [h1, h3, h4, h5]
        · have h1 : m / 16 = n / 16 := by omega
          have h2 : ¬ m % 16 < n % 16 := by omega
          have h3 : (m % 16 == n % 16) = false := by simp; omega
          have h4 : ¬ m < n := by omega
          have h5 : (m == n) = false := by simp; omega
          simp [h1, h2, h3, h4, h5]
end Go.Proofs.Ytmhiclangfhhcaa
