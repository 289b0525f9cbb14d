/- Plain facts on bytes and numbers: what a row of bytes is in the midst of being put; nothing of the program is in it. -/
import GoSem.Claim
import Derived.Below
namespace Go.Proofs.YtbojigimldfghaaDoor
set_option linter.unusedVariables false

/-- bytes as cells -/
def cellsOf (l : List UInt8) : List Value := l.map fun b => Value.int .u8 (b.toNat : Int)
/-- the lowest k bytes, the greatest first -/
def putL (n : Nat) : Nat → List UInt8
  | 0 => []
  | k + 1 => UInt8.ofNat (n / 256 ^ k) :: putL n k
theorem putL_length (n k : Nat) : (putL n k).length = k := by
  induction k with
  | zero => rfl
  | succ k ih => simp [putL, ih]
/-- the width, clipped to 0 to 8 -/
def clip8 (wide : Int) : Nat := min wide.toNat 8
/-- a row of k bytes in the midst of being put: the last i are there -/
def putting (n k i : Nat) : List Value := cellsOf (List.replicate (k - i) 0 ++ putL n i)

theorem cellsOf_append (a b : List UInt8) : cellsOf (a ++ b) = cellsOf a ++ cellsOf b := by simp [cellsOf]
theorem cellsOf_length (a : List UInt8) : (cellsOf a).length = a.length := by simp [cellsOf]
theorem cellsOf_at (l : List UInt8) (j : Nat) (h : j < l.length) : (cellsOf l)[j]? = some (Value.int .u8 ((l[j]).toNat : Int)) := by
  simp [cellsOf, h]

theorem byte_of (n j : Nat) : (((UInt8.ofNat (n / 256 ^ j)).toNat : Nat) : Int) = (n : Int) / 2 ^ (8 * j) % 256 := by
  have e : (2 : Nat) ^ (8 * j) = 256 ^ j := by rw [Nat.pow_mul]
  have e2 : ((2 : Int) ^ (8 * j)) = ((256 ^ j : Nat) : Int) := by rw [← e]; simp
  rw [e2]
  simp only [UInt8.toNat_ofNat']
  omega

theorem putting_at (n k j : Nat) (h : j < k) : (putting n k j)[k - 1 - j]? = some (Value.int .u8 0) := by
  obtain ⟨m, rfl⟩ : ∃ m, k = m + 1 + j := ⟨k - 1 - j, by omega⟩
  have e1 : m + 1 + j - 1 - j = m := by omega
  have e2 : m + 1 + j - j = m + 1 := by omega
  rw [putting, e1, e2, cellsOf_append, List.replicate_succ', cellsOf_append]
  simp [cellsOf]

theorem putting_set (n k j : Nat) (h : j < k) : (putting n k j).set (k - 1 - j) (Value.int .u8 ((n : Int) / 2 ^ (8 * j) % 256)) = putting n k (j + 1) := by
  obtain ⟨m, rfl⟩ : ∃ m, k = m + 1 + j := ⟨k - 1 - j, by omega⟩
  have e1 : m + 1 + j - 1 - j = m := by omega
  have e2 : m + 1 + j - j = m + 1 := by omega
  have e3 : m + 1 + j - (j + 1) = m := by omega
  rw [putting, putting, e1, e2, e3, cellsOf_append, List.replicate_succ', cellsOf_append, cellsOf_append, putL, ← byte_of]
  simp [cellsOf]
theorem putting_zero (n k : Nat) : putting n k 0 = List.replicate k (Value.int .u8 0) := by simp [putting, putL, cellsOf]
theorem putting_all (n k : Nat) : putting n k k = cellsOf (putL n k) := by simp [putting]

/-- a row of bytes that can be read at A, below block B -/
def BytesAt (w : World) (B : Nat) (A : Option Addr) (bs : List UInt8) : Prop :=
  0 < bs.length → ∃ b off, A = some ⟨b, off, none⟩ ∧ b < B ∧ ∀ j (h : j < bs.length), w.cell? ⟨b, off + j, none⟩ = some (.int .u8 ((bs[j]).toNat : Int))
/-- the number that bytes tell, the greatest first -/
def getN (l : List UInt8) : Nat := l.foldl (fun n b => 256 * n + b.toNat) 0
theorem getN_snoc (l : List UInt8) (b : UInt8) : getN (l ++ [b]) = 256 * getN l + b.toNat := by simp [getN]
theorem getN_lt (l : List UInt8) : getN l < 256 ^ l.length := by
  generalize hk : l.length = k
  induction k generalizing l with
  | zero => rw [List.eq_nil_of_length_eq_zero hk]; decide
  | succ k ih =>
    have hne : l ≠ [] := by intro h; subst h; simp at hk
    have e := List.dropLast_concat_getLast hne
    have h1 := ih l.dropLast (by rw [List.length_dropLast, hk]; rfl)
    have h2 := (l.getLast hne).toNat_lt
    rw [← e, getN_snoc, Nat.pow_succ]; omega
theorem getN_take_lt (l : List UInt8) (k : Nat) (h : k ≤ 7) : getN (l.take k) < 72057594037927936 := by
  have hn := getN_lt (l.take k)
  have h1 : (256 : Nat) ^ (l.take k).length ≤ 256 ^ 7 := Nat.pow_le_pow_right (by omega) (by rw [List.length_take]; omega)
  omega
/-- the last eight, or all -/
def last8 (l : List UInt8) : List UInt8 := l.drop (l.length - 8)
theorem take_snoc8 (l : List UInt8) (k : Nat) (h : k < l.length) : l.take (k + 1) = l.take k ++ [l[k]] := by
  rw [List.take_succ_eq_append_getElem h]

/-- is it one of the ten digits? -/
def isDig (b : UInt8) : Bool := decide (48 ≤ b.toNat) && decide (b.toNat ≤ 57)
/-- the number that digits tell -/
def decN (l : List UInt8) : Nat := l.foldl (fun n b => 10 * n + (b.toNat - 48)) 0
theorem decN_snoc (l : List UInt8) (b : UInt8) : decN (l ++ [b]) = 10 * decN l + (b.toNat - 48) := by simp [decN]
/-- do digits tell a number up to most? -/
def decB (l : List UInt8) (most : Int) : Bool := decide (1 ≤ l.length) && decide (l.length ≤ 9) && l.all isDig && decide ((decN l : Int) ≤ most)
/-- the number that Decimal tells -/
def decV (l : List UInt8) (most : Int) : Int := if decB l most = true then (decN l : Int) else 0
theorem isDig_iff (b : UInt8) : isDig b = true ↔ 48 ≤ b.toNat ∧ b.toNat ≤ 57 := by simp [isDig]
theorem decN_lt (l : List UInt8) (h : l.all isDig = true) : decN l < 10 ^ l.length := by
  generalize hk : l.length = k
  induction k generalizing l with
  | zero => rw [List.eq_nil_of_length_eq_zero hk]; decide
  | succ k ih =>
    have hne : l ≠ [] := by intro h; subst h; simp at hk
    have e := List.dropLast_concat_getLast hne
    rw [← e, List.all_append, Bool.and_eq_true] at h
    have h1 := ih l.dropLast h.1 (by rw [List.length_dropLast, hk]; rfl)
    have h2 : isDig (l.getLast hne) = true := by simpa using h.2
    rw [isDig_iff] at h2
    rw [← e, decN_snoc, Nat.pow_succ]; omega
theorem decN_take_lt (l : List UInt8) (k : Nat) (hk : k ≤ 9) (h : (l.take k).all isDig = true) : decN (l.take k) < 1000000000 := by
  have h1 := decN_lt _ h
  have h2 : (10 : Nat) ^ (l.take k).length ≤ 10 ^ 9 := Nat.pow_le_pow_right (by omega) (by rw [List.length_take]; omega)
  omega
theorem take_snocB (s : ByteArray) (k : Nat) (h : k < s.size) : s.data.toList.take (k + 1) = s.data.toList.take k ++ [s[k]] := by
  rw [List.take_succ_eq_append_getElem (by simpa using h)]; rfl
theorem dec_step (s : ByteArray) (k : Nat) (h : k < s.size) (ha : (s.data.toList.take k).all isDig = true) (h1 : 48 ≤ (s[k]).toNat) (h2 : (s[k]).toNat ≤ 57) :
    (s.data.toList.take (k + 1)).all isDig = true ∧ decN (s.data.toList.take (k + 1)) = 10 * decN (s.data.toList.take k) + ((s[k]).toNat - 48) := by
  rw [take_snocB s k h, List.all_append, decN_snoc, Bool.and_eq_true]
  exact ⟨⟨ha, by simp [isDig, h1, h2]⟩, rfl⟩
theorem dec_bad (s : ByteArray) (most : Int) (k : Nat) (h : k < s.size) (hb : ¬ (48 ≤ (s[k]).toNat ∧ (s[k]).toNat ≤ 57)) : decB s.data.toList most = false := by
  have : ¬ s.data.toList.all isDig = true := by
    intro ha
    rw [List.all_eq_true] at ha
    have := ha (s[k]) (by simp [ByteArray.getElem_eq_getElem_data])
    rw [isDig_iff] at this
    exact hb this
  simp [decB, this]
theorem dec_short (l : List UInt8) (most : Int) (h : ¬ (1 ≤ l.length ∧ l.length ≤ 9)) : decB l most = false := by
  simp only [decB]
  by_cases h1 : 1 ≤ l.length
  · have : ¬ l.length ≤ 9 := by omega
    simp [this]
  · simp [h1]
theorem dec_end (l : List UInt8) (most : Int) (h1 : 1 ≤ l.length) (h2 : l.length ≤ 9) (ha : l.all isDig = true) : decB l most = decide ((decN l : Int) ≤ most) := by
  simp [decB, h1, h2, ha]
theorem decV_false {l : List UInt8} {most : Int} (h : decB l most = false) : decV l most = 0 := by simp [decV, h]
theorem decV_true {l : List UInt8} {most : Int} (h : decB l most = true) : decV l most = decN l := by simp [decV, h]

theorem BytesAt.keep {w w' : World} {B : Nat} {A : Option Addr} {bs : List UInt8} (h : BytesAt w B A bs) (hk : ∀ p : Addr, p.block < B → w'.cell? p = w.cell? p) : BytesAt w' B A bs := fun hn => by
  obtain ⟨b, off, e, hb, hc⟩ := h hn
  exact ⟨b, off, e, hb, fun j hj => (hk _ hb).trans (hc j hj)⟩
theorem BytesAt.more {w : World} {B B' : Nat} {A : Option Addr} {bs : List UInt8} (h : BytesAt w B A bs) (hB : B ≤ B') : BytesAt w B' A bs := fun hn => by
  obtain ⟨b, off, e, hb, hc⟩ := h hn
  exact ⟨b, off, e, by omega, hc⟩
theorem BytesAt.nil (w : World) (B : Nat) (A : Option Addr) : BytesAt w B A [] := fun h => absurd h (by simp)
theorem getN_cons (b : UInt8) (l : List UInt8) : getN (b :: l) = b.toNat * 256 ^ l.length + getN l := by
  generalize hk : l.length = k
  induction k generalizing l with
  | zero => rw [List.eq_nil_of_length_eq_zero hk]; simp [getN]
  | succ k ih =>
    have hne : l ≠ [] := by intro h; subst h; simp at hk
    have e := List.dropLast_concat_getLast hne
    have h1 := ih l.dropLast (by rw [List.length_dropLast, hk]; rfl)
    rw [← e, ← List.cons_append, getN_snoc, getN_snoc, h1, Nat.pow_succ, Nat.mul_add, Nat.add_assoc, ← Nat.mul_assoc, Nat.mul_comm 256 b.toNat, Nat.mul_assoc b.toNat 256, Nat.mul_comm 256 (256 ^ k)]
theorem getN_putL (n k : Nat) : getN (putL n k) = n % 256 ^ k := by
  induction k with
  | zero => simp [putL, getN, Nat.mod_one]
  | succ k ih =>
    rw [putL, getN_cons, putL_length, ih, Nat.pow_succ, Nat.mod_mul]
    simp only [UInt8.toNat_ofNat']
    rw [Nat.add_comm, Nat.mul_comm]
theorem last8_short {l : List UInt8} (h : l.length ≤ 8) : last8 l = l := by unfold last8; rw [show l.length - 8 = 0 by omega]; rfl

/-- a number's digits -/
def digL (n : Nat) : List UInt8 := if n ≤ 9 then [UInt8.ofNat (48 + n)] else digL (n / 10) ++ [UInt8.ofNat (48 + n % 10)]
theorem digL_le {n : Nat} (h : n ≤ 9) : digL n = [UInt8.ofNat (48 + n)] := by rw [digL, if_pos h]
theorem digL_gt {n : Nat} (h : ¬ n ≤ 9) : digL n = digL (n / 10) ++ [UInt8.ofNat (48 + n % 10)] := by rw [digL, if_neg h]
theorem toNat_dig (m : Nat) (h : m ≤ 9) : (UInt8.ofNat (48 + m)).toNat = 48 + m := by rw [UInt8.toNat_ofNat']; omega
theorem digL_facts (n : Nat) : (digL n).all isDig = true ∧ decN (digL n) = n ∧ 1 ≤ (digL n).length := by
  induction n using Nat.strongRecOn with
  | ind n ih =>
    by_cases h : n ≤ 9
    · have h1 := toNat_dig n h
      rw [digL_le h]
      refine ⟨?_, ?_, by simp⟩
      · simp only [List.all_cons, List.all_nil, Bool.and_true, isDig_iff, h1]; omega
      · show 10 * 0 + ((UInt8.ofNat (48 + n)).toNat - 48) = n
        rw [h1]; omega
    · have h1 := toNat_dig (n % 10) (by omega)
      obtain ⟨i1, i2, i3⟩ := ih (n / 10) (by omega)
      rw [digL_gt h]
      refine ⟨?_, ?_, by simp⟩
      · rw [List.all_append, i1]
        simp only [List.all_cons, List.all_nil, Bool.and_true, Bool.true_and, isDig_iff, h1]; omega
      · rw [decN_snoc, i2, h1]; omega
theorem digL_len (k n : Nat) : (digL n).length ≤ k + 1 ↔ n < 10 ^ (k + 1) := by
  induction k generalizing n with
  | zero =>
    by_cases h : n ≤ 9
    · rw [digL_le h]; simp; omega
    · have := (digL_facts (n / 10)).2.2
      rw [digL_gt h, List.length_append]; simp only [List.length_cons, List.length_nil]; omega
  | succ k ih =>
    by_cases h : n ≤ 9
    · rw [digL_le h]
      have : 10 ^ 1 ≤ 10 ^ (k + 1 + 1) := Nat.pow_le_pow_right (by omega) (by omega)
      simp; omega
    · rw [digL_gt h, List.length_append]
      have := ih (n / 10)
      rw [Nat.pow_succ 10 (k + 1)]
      simp only [List.length_cons, List.length_nil]
      omega
theorem digL_nine (n : Nat) : (digL n).length ≤ 9 ↔ n < 1000000000 := digL_len 8 n
theorem dec_digL (n : Nat) : decB (digL n) n = decide (n < 1000000000) := by
  obtain ⟨h1, h2, h3⟩ := digL_facts n
  have h4 := digL_nine n
  by_cases h : n < 1000000000
  · rw [dec_end _ _ h3 (h4.2 h) h1, h2]; simp [h]
  · rw [dec_short _ _ (by omega)]; simp [h]
theorem decV_digL (n : Nat) (h : n < 1000000000) : decV (digL n) n = n := by
  rw [decV_true (by rw [dec_digL]; simpa using h), (digL_facts n).2.1]
theorem dec_digL_less (n : Nat) : decB (digL n) ((n : Int) - 1) = false := by
  obtain ⟨h1, h2, h3⟩ := digL_facts n
  by_cases h : (digL n).length ≤ 9
  · rw [dec_end _ _ h3 h h1, h2]; simp; omega
  · exact dec_short _ _ (by omega)
/-- one world behind the other, old memory as it was -/
theorem below_then {a b c : World} (h : RowKit.Below a.heap.size a b) (k : RowKit.Below b.heap.size b c) : RowKit.Below a.heap.size a c := h.trans (k.mono h.size)
end Go.Proofs.YtbojigimldfghaaDoor
