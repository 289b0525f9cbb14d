/- Plain facts on bytes and numbers: what a row of bytes is in the midst of being put; nothing of the program is in it. And what was Plain, Base. -/
import GoSem.Claim
import Derived.Below
import Derived.Test.YthpbhfepiekchaaRows
import Derived.WalkKit
import Derived.ProofKit
import Derived.OpenShut
import Derived.OwnWalk
import Derived.Laws.AppendOwnNone
import Derived.Laws.BytesArg
import Derived.Laws.RangeString
import Derived.Laws.RangeAny
namespace Go.Proofs.Ythpbhfepiekchaa
set_option linter.unusedVariables false

/-- bytes as cells -/
def cellsOf (l : List UInt8) : List Value := l.map fun b => Value.int .u8 (b.toNat : Int)
/-- the lowest k bytes, the greatest first -/
def putL (n : Nat) : Nat → List UInt8
  | 0 => []
  | k + 1 => UInt8.ofNat (n / 256 ^ k) :: putL n k
theorem putL_length (n k : Nat) : (putL n k).length = k := by
  induction k with
  | zero => rfl
  | succ k ih => simp [putL, ih]
/-- the width, clipped to 0 to 8 -/
def clip8 (wide : Int) : Nat := min wide.toNat 8
/-- a row of k bytes in the midst of being put: the last i are there -/
def putting (n k i : Nat) : List Value := cellsOf (List.replicate (k - i) 0 ++ putL n i)

theorem cellsOf_append (a b : List UInt8) : cellsOf (a ++ b) = cellsOf a ++ cellsOf b := by simp [cellsOf]
theorem cellsOf_length (a : List UInt8) : (cellsOf a).length = a.length := by simp [cellsOf]
theorem cellsOf_at (l : List UInt8) (j : Nat) (h : j < l.length) : (cellsOf l)[j]? = some (Value.int .u8 ((l[j]).toNat : Int)) := by
  simp [cellsOf, h]

theorem byte_of (n j : Nat) : (((UInt8.ofNat (n / 256 ^ j)).toNat : Nat) : Int) = (n : Int) / 2 ^ (8 * j) % 256 := by
  have e : (2 : Nat) ^ (8 * j) = 256 ^ j := by rw [Nat.pow_mul]
  have e2 : ((2 : Int) ^ (8 * j)) = ((256 ^ j : Nat) : Int) := by rw [← e]; simp
  rw [e2]
  simp only [UInt8.toNat_ofNat']
  omega

theorem putting_at (n k j : Nat) (h : j < k) : (putting n k j)[k - 1 - j]? = some (Value.int .u8 0) := by
  obtain ⟨m, rfl⟩ : ∃ m, k = m + 1 + j := ⟨k - 1 - j, by omega⟩
  have e1 : m + 1 + j - 1 - j = m := by omega
  have e2 : m + 1 + j - j = m + 1 := by omega
  rw [putting, e1, e2, cellsOf_append, List.replicate_succ', cellsOf_append]
  simp [cellsOf]

theorem putting_set (n k j : Nat) (h : j < k) : (putting n k j).set (k - 1 - j) (Value.int .u8 ((n : Int) / 2 ^ (8 * j) % 256)) = putting n k (j + 1) := by
  obtain ⟨m, rfl⟩ : ∃ m, k = m + 1 + j := ⟨k - 1 - j, by omega⟩
  have e1 : m + 1 + j - 1 - j = m := by omega
  have e2 : m + 1 + j - j = m + 1 := by omega
  have e3 : m + 1 + j - (j + 1) = m := by omega
  rw [putting, putting, e1, e2, e3, cellsOf_append, List.replicate_succ', cellsOf_append, cellsOf_append, putL, ← byte_of]
  simp [cellsOf]
theorem putting_zero (n k : Nat) : putting n k 0 = List.replicate k (Value.int .u8 0) := by simp [putting, putL, cellsOf]
theorem putting_all (n k : Nat) : putting n k k = cellsOf (putL n k) := by simp [putting]

/-- a row of bytes that can be read at A, below block B -/
def BytesAt (w : World) (B : Nat) (A : Option Addr) (bs : List UInt8) : Prop :=
  0 < bs.length → ∃ b off, A = some ⟨b, off, none⟩ ∧ b < B ∧ ∀ j (h : j < bs.length), w.cell? ⟨b, off + j, none⟩ = some (.int .u8 ((bs[j]).toNat : Int))
/-- the number that bytes tell, the greatest first -/
def getN (l : List UInt8) : Nat := l.foldl (fun n b => 256 * n + b.toNat) 0
theorem getN_snoc (l : List UInt8) (b : UInt8) : getN (l ++ [b]) = 256 * getN l + b.toNat := by simp [getN]
theorem getN_lt (l : List UInt8) : getN l < 256 ^ l.length := by
  generalize hk : l.length = k
  induction k generalizing l with
  | zero => rw [List.eq_nil_of_length_eq_zero hk]; decide
  | succ k ih =>
    have hne : l ≠ [] := by intro h; subst h; simp at hk
    have e := List.dropLast_concat_getLast hne
    have h1 := ih l.dropLast (by rw [List.length_dropLast, hk]; rfl)
    have h2 := (l.getLast hne).toNat_lt
    rw [← e, getN_snoc, Nat.pow_succ]; omega
theorem getN_take_lt (l : List UInt8) (k : Nat) (h : k ≤ 7) : getN (l.take k) < 72057594037927936 := by
  have hn := getN_lt (l.take k)
  have h1 : (256 : Nat) ^ (l.take k).length ≤ 256 ^ 7 := Nat.pow_le_pow_right (by omega) (by rw [List.length_take]; omega)
  omega
/-- the last eight, or all -/
def last8 (l : List UInt8) : List UInt8 := l.drop (l.length - 8)
theorem take_snoc8 (l : List UInt8) (k : Nat) (h : k < l.length) : l.take (k + 1) = l.take k ++ [l[k]] := by
  rw [List.take_succ_eq_append_getElem h]

/-- is it one of the ten digits? -/
def isDig (b : UInt8) : Bool := decide (48 ≤ b.toNat) && decide (b.toNat ≤ 57)
/-- the number that digits tell -/
def decN (l : List UInt8) : Nat := l.foldl (fun n b => 10 * n + (b.toNat - 48)) 0
theorem decN_snoc (l : List UInt8) (b : UInt8) : decN (l ++ [b]) = 10 * decN l + (b.toNat - 48) := by simp [decN]
/-- do digits tell a number up to most? -/
def decB (l : List UInt8) (most : Int) : Bool := decide (1 ≤ l.length) && decide (l.length ≤ 9) && l.all isDig && decide ((decN l : Int) ≤ most)
/-- the number that Decimal tells -/
def decV (l : List UInt8) (most : Int) : Int := if decB l most = true then (decN l : Int) else 0
theorem isDig_iff (b : UInt8) : isDig b = true ↔ 48 ≤ b.toNat ∧ b.toNat ≤ 57 := by simp [isDig]
theorem decN_lt (l : List UInt8) (h : l.all isDig = true) : decN l < 10 ^ l.length := by
  generalize hk : l.length = k
  induction k generalizing l with
  | zero => rw [List.eq_nil_of_length_eq_zero hk]; decide
  | succ k ih =>
    have hne : l ≠ [] := by intro h; subst h; simp at hk
    have e := List.dropLast_concat_getLast hne
    rw [← e, List.all_append, Bool.and_eq_true] at h
    have h1 := ih l.dropLast h.1 (by rw [List.length_dropLast, hk]; rfl)
    have h2 : isDig (l.getLast hne) = true := by simpa using h.2
    rw [isDig_iff] at h2
    rw [← e, decN_snoc, Nat.pow_succ]; omega
theorem decN_take_lt (l : List UInt8) (k : Nat) (hk : k ≤ 9) (h : (l.take k).all isDig = true) : decN (l.take k) < 1000000000 := by
  have h1 := decN_lt _ h
  have h2 : (10 : Nat) ^ (l.take k).length ≤ 10 ^ 9 := Nat.pow_le_pow_right (by omega) (by rw [List.length_take]; omega)
  omega
theorem take_snocB (s : ByteArray) (k : Nat) (h : k < s.size) : s.data.toList.take (k + 1) = s.data.toList.take k ++ [s[k]] := by
  rw [List.take_succ_eq_append_getElem (by simpa using h)]; rfl
theorem dec_step (s : ByteArray) (k : Nat) (h : k < s.size) (ha : (s.data.toList.take k).all isDig = true) (h1 : 48 ≤ (s[k]).toNat) (h2 : (s[k]).toNat ≤ 57) :
    (s.data.toList.take (k + 1)).all isDig = true ∧ decN (s.data.toList.take (k + 1)) = 10 * decN (s.data.toList.take k) + ((s[k]).toNat - 48) := by
  rw [take_snocB s k h, List.all_append, decN_snoc, Bool.and_eq_true]
  exact ⟨⟨ha, by simp [isDig, h1, h2]⟩, rfl⟩
theorem dec_bad (s : ByteArray) (most : Int) (k : Nat) (h : k < s.size) (hb : ¬ (48 ≤ (s[k]).toNat ∧ (s[k]).toNat ≤ 57)) : decB s.data.toList most = false := by
  have : ¬ s.data.toList.all isDig = true := by
    intro ha
    rw [List.all_eq_true] at ha
    have := ha (s[k]) (by simp [ByteArray.getElem_eq_getElem_data])
    rw [isDig_iff] at this
    exact hb this
  simp [decB, this]
theorem dec_short (l : List UInt8) (most : Int) (h : ¬ (1 ≤ l.length ∧ l.length ≤ 9)) : decB l most = false := by
  simp only [decB]
  by_cases h1 : 1 ≤ l.length
  · have : ¬ l.length ≤ 9 := by omega
    simp [this]
  · simp [h1]
theorem dec_end (l : List UInt8) (most : Int) (h1 : 1 ≤ l.length) (h2 : l.length ≤ 9) (ha : l.all isDig = true) : decB l most = decide ((decN l : Int) ≤ most) := by
  simp [decB, h1, h2, ha]
theorem decV_false {l : List UInt8} {most : Int} (h : decB l most = false) : decV l most = 0 := by simp [decV, h]
theorem decV_true {l : List UInt8} {most : Int} (h : decB l most = true) : decV l most = decN l := by simp [decV, h]

theorem BytesAt.keep {w w' : World} {B : Nat} {A : Option Addr} {bs : List UInt8} (h : BytesAt w B A bs) (hk : ∀ p : Addr, p.block < B → w'.cell? p = w.cell? p) : BytesAt w' B A bs := fun hn => by
  obtain ⟨b, off, e, hb, hc⟩ := h hn
  exact ⟨b, off, e, hb, fun j hj => (hk _ hb).trans (hc j hj)⟩
theorem BytesAt.more {w : World} {B B' : Nat} {A : Option Addr} {bs : List UInt8} (h : BytesAt w B A bs) (hB : B ≤ B') : BytesAt w B' A bs := fun hn => by
  obtain ⟨b, off, e, hb, hc⟩ := h hn
  exact ⟨b, off, e, by omega, hc⟩
theorem BytesAt.nil (w : World) (B : Nat) (A : Option Addr) : BytesAt w B A [] := fun h => absurd h (by simp)
theorem getN_cons (b : UInt8) (l : List UInt8) : getN (b :: l) = b.toNat * 256 ^ l.length + getN l := by
  generalize hk : l.length = k
  induction k generalizing l with
  | zero => rw [List.eq_nil_of_length_eq_zero hk]; simp [getN]
  | succ k ih =>
    have hne : l ≠ [] := by intro h; subst h; simp at hk
    have e := List.dropLast_concat_getLast hne
    have h1 := ih l.dropLast (by rw [List.length_dropLast, hk]; rfl)
    rw [← e, ← List.cons_append, getN_snoc, getN_snoc, h1, Nat.pow_succ, Nat.mul_add, Nat.add_assoc, ← Nat.mul_assoc, Nat.mul_comm 256 b.toNat, Nat.mul_assoc b.toNat 256, Nat.mul_comm 256 (256 ^ k)]
theorem getN_putL (n k : Nat) : getN (putL n k) = n % 256 ^ k := by
  induction k with
  | zero => simp [putL, getN, Nat.mod_one]
  | succ k ih =>
    rw [putL, getN_cons, putL_length, ih, Nat.pow_succ, Nat.mod_mul]
    simp only [UInt8.toNat_ofNat']
    rw [Nat.add_comm, Nat.mul_comm]
theorem last8_short {l : List UInt8} (h : l.length ≤ 8) : last8 l = l := by unfold last8; rw [show l.length - 8 = 0 by omega]; rfl

/-- a number's digits -/
def digL (n : Nat) : List UInt8 := if n ≤ 9 then [UInt8.ofNat (48 + n)] else digL (n / 10) ++ [UInt8.ofNat (48 + n % 10)]
theorem digL_le {n : Nat} (h : n ≤ 9) : digL n = [UInt8.ofNat (48 + n)] := by rw [digL, if_pos h]
theorem digL_gt {n : Nat} (h : ¬ n ≤ 9) : digL n = digL (n / 10) ++ [UInt8.ofNat (48 + n % 10)] := by rw [digL, if_neg h]
theorem toNat_dig (m : Nat) (h : m ≤ 9) : (UInt8.ofNat (48 + m)).toNat = 48 + m := by rw [UInt8.toNat_ofNat']; omega
theorem digL_facts (n : Nat) : (digL n).all isDig = true ∧ decN (digL n) = n ∧ 1 ≤ (digL n).length := by
  induction n using Nat.strongRecOn with
  | ind n ih =>
    by_cases h : n ≤ 9
    · have h1 := toNat_dig n h
      rw [digL_le h]
      refine ⟨?_, ?_, by simp⟩
      · simp only [List.all_cons, List.all_nil, Bool.and_true, isDig_iff, h1]; omega
      · show 10 * 0 + ((UInt8.ofNat (48 + n)).toNat - 48) = n
        rw [h1]; omega
    · have h1 := toNat_dig (n % 10) (by omega)
      obtain ⟨i1, i2, i3⟩ := ih (n / 10) (by omega)
      rw [digL_gt h]
      refine ⟨?_, ?_, by simp⟩
      · rw [List.all_append, i1]
        simp only [List.all_cons, List.all_nil, Bool.and_true, Bool.true_and, isDig_iff, h1]; omega
      · rw [decN_snoc, i2, h1]; omega
theorem digL_len (k n : Nat) : (digL n).length ≤ k + 1 ↔ n < 10 ^ (k + 1) := by
  induction k generalizing n with
  | zero =>
    by_cases h : n ≤ 9
    · rw [digL_le h]; simp; omega
    · have := (digL_facts (n / 10)).2.2
      rw [digL_gt h, List.length_append]; simp only [List.length_cons, List.length_nil]; omega
  | succ k ih =>
    by_cases h : n ≤ 9
    · rw [digL_le h]
      have : 10 ^ 1 ≤ 10 ^ (k + 1 + 1) := Nat.pow_le_pow_right (by omega) (by omega)
      simp; omega
    · rw [digL_gt h, List.length_append]
      have := ih (n / 10)
      rw [Nat.pow_succ 10 (k + 1)]
      simp only [List.length_cons, List.length_nil]
      omega
theorem digL_nine (n : Nat) : (digL n).length ≤ 9 ↔ n < 1000000000 := digL_len 8 n
theorem dec_digL (n : Nat) : decB (digL n) n = decide (n < 1000000000) := by
  obtain ⟨h1, h2, h3⟩ := digL_facts n
  have h4 := digL_nine n
  by_cases h : n < 1000000000
  · rw [dec_end _ _ h3 (h4.2 h) h1, h2]; simp [h]
  · rw [dec_short _ _ (by omega)]; simp [h]
theorem decV_digL (n : Nat) (h : n < 1000000000) : decV (digL n) n = n := by
  rw [decV_true (by rw [dec_digL]; simpa using h), (digL_facts n).2.1]
theorem dec_digL_less (n : Nat) : decB (digL n) ((n : Int) - 1) = false := by
  obtain ⟨h1, h2, h3⟩ := digL_facts n
  by_cases h : (digL n).length ≤ 9
  · rw [dec_end _ _ h3 h h1, h2]; simp; omega
  · exact dec_short _ _ (by omega)
/-- one world behind the other, old memory as it was -/
theorem below_then {a b c : World} (h : RowKit.Below a.heap.size a b) (k : RowKit.Below b.heap.size b c) : RowKit.Below a.heap.size a c := h.trans (k.mono h.size)
end Go.Proofs.Ythpbhfepiekchaa

/- Words that every seat over this program shares: facts kept from a walk, rows of bytes in memory, appends, texts of one byte. Nothing here speaks of one function. -/
namespace Go.Proofs.Ythpbhfepiekchaa
open Go.ChangeShapes Go.WideShapes Go.ChangeAt Go.RowKit
set_option linter.unusedVariables false

theorem hideIt {p : Prop} (h : p) : Hid p := h


/-- a number that fits a uint64 -/
def U64 (a : Int) : Prop := 0 ≤ a ∧ a < 18446744073709551616
theorem u64_of_wf {a : Int} (h : (Lit.int .u64 a).wf = true) : U64 a := by
  have := bounds_u64 h; unfold U64; omega
theorem u64_wrap (x : Int) : U64 (IntKind.u64.wrap x) := by
  rw [IntKind.wrap_u64]; unfold U64; omega
theorem wf_small {x : Int} (h1 : -1 ≤ x) (h2 : x ≤ 4294967296) : (Lit.int .i64 x).wf = true := by
  have e1 : IntKind.i64.min = -9223372036854775808 := by decide
  have e2 : IntKind.i64.max = 9223372036854775807 := by decide
  simp only [Lit.wf, e1, e2, Bool.and_eq_true, decide_eq_true_eq]
  omega


theorem ret_true {b : Bool} (h : b = true) : Ending.returned (.bool b) = .returned (.bool true) := by rw [h]
theorem info_u8 : (Try.prog.info? 5).map (fun i => (i.zero, i.size, i.bytes)) = some (some (.int .u8 0), 1, 1) := by kernel_rfl

theorem below_made {w w1 : World} (hg : w.grownBy w1 none) : Below w.heap.size w w1 := ⟨hg.os, hg.tape, hg.output, hg.size, fun i hi => hg.block i hi (by simp)⟩

theorem own_made0 (k : Nat) {w1 : World} {b g : Nat} {e : TypeId} (h : w1.ownsRow b e 1 (.slice (some ⟨g, 0, none⟩) k k) k (madeCells (Value.int .u8 0).cells (k * 1)).toList) : w1.ownsRow b e 1 (.slice (some ⟨g, 0, none⟩) k k) k (List.replicate k (Value.int .u8 0)) := by
  have e0 : (Value.int .u8 0).cells = #[Value.int .u8 0] := rfl
  rw [e0, toList_madeCells_one, Nat.mul_one] at h
  exact h
theorem own_bytes {w : World} {base g k cap : Nat} {e : TypeId} {bs : List UInt8} (h : w.ownsRow base e 1 (.slice (some ⟨g, 0, none⟩) k cap) k (cellsOf bs)) : BytesAt w w.heap.size (some ⟨g, 0, none⟩) bs := fun hn => by
  have hl : bs.length = k := by have := h.1; rwa [cellsOf_length, Nat.mul_one] at this
  refine ⟨g, 0, rfl, (h.lt g rfl).2, fun j hj => ?_⟩
  rw [Nat.zero_add, h.cellAt j (by omega), cellsOf_at bs j hj]
/-- an owned row, opened: it is a slice, and can be read -/
theorem own_open {w : World} {base n : Nat} {e : TypeId} {v : Value} {bs : List UInt8} (h : w.ownsRow base e 1 v n (cellsOf bs)) :
    ∃ A c, v = .slice A n c ∧ bs.length = n ∧ n ≤ c ∧ c ≤ maxLen ∧ (A = none → c = 0) ∧ BytesAt w w.heap.size A bs := by
  have hl : bs.length = n := by have := h.1; rwa [cellsOf_length, Nat.mul_one] at this
  subst hl
  rcases h.2 with ⟨rfl, h0⟩ | ⟨g, cap, cur, rfl, hb, hg, hnc, hcm, _⟩
  · exact ⟨none, 0, by rw [h0], rfl, by omega, by unfold maxLen; omega, fun _ => rfl, fun hh => by omega⟩
  · exact ⟨_, cap, rfl, rfl, hnc, hcm, (fun hh => by cases hh), own_bytes h⟩

/-- a row that was made: noughts -/
theorem own_zeros {w1 : World} {b g k : Nat} {e : TypeId} (h : w1.ownsRow b e 1 (.slice (some ⟨g, 0, none⟩) k k) k (madeCells (Value.int .u8 0).cells (k * 1)).toList) : w1.ownsRow b e 1 (.slice (some ⟨g, 0, none⟩) k k) k (cellsOf (List.replicate k 0)) := by
  have := own_made0 k h
  simpa [cellsOf] using this
/-- append of whatever bytes onto a row of the call's own -/
theorem wpList_app {w : World} {ops : Array Oper} {rest : List Oper} {o : Oper} {a : Act} {Q : Exit → Act → World → Prop} (hgd : o.guard = none) (s x : Operand)
    (ho : o.op = .call { callee := .builtin .append, args := #[s, x], argTypes := #[22, 22] })
    (base : Nat) (v : Value) (n : Nat) (xs : List UInt8) (hs : a.eval s = v) (hown : w.ownsRow base 5 1 v n (cellsOf xs))
    (A : Option Addr) (m c B : Nat) (bs : List UInt8) (hx : a.eval x = .slice A m c) (hm : bs.length = m) (hnil : A = none → c = 0) (hb : BytesAt w B A bs)
    (hlen : n + m ≤ 140737488355328) (hbase : base ≤ w.heap.size)
    (h : ∀ v' w', w'.ownsRow base 5 1 v' (n + m) (cellsOf (xs ++ bs)) → w.grownBy w' v.ownBlock → wpList Try.prog ops Q rest (a.put o.dst v') w') : wpList Try.prog ops Q (o :: rest) a w := by
  obtain ⟨i0, hi, hz0, hz1, hz2⟩ := info_parts info_u8
  subst hm
  rcases A with _ | ad
  · obtain rfl := hnil rfl
    have hbs : bs = [] := by
      rcases Nat.eq_zero_or_pos bs.length with h0 | h0
      · exact List.eq_nil_of_length_eq_zero h0
      · obtain ⟨_, _, hh, _⟩ := hb h0
        cases hh
    subst hbs
    refine wpList_append_own_none hgd s x 22 ho base 5 i0 1 Try.underlying22 hi v n _ hs hown hx ?_
    have := h v w (by simpa using hown) ⟨rfl, rfl, rfl, Nat.le_refl _, fun _ _ _ => rfl⟩
    exact this
  · refine wpList_append_own w hgd s x 22 ho base 5 i0 (.int .u8 0) 1 1 Try.underlying22 hi hz0 hz1 hz2 rfl (by decide) v n _ hs hown ad bs.length c (cellsOf bs) hx (by rw [cellsOf_length, Nat.mul_one]) ?_ ?_ (by unfold maxLen; omega) (by omega) hbase ?_
    · intro j u hu
      have hj : j < bs.length := by
        rcases Nat.lt_or_ge j bs.length with hh | hh
        · exact hh
        · rw [List.getElem?_eq_none (by rw [cellsOf_length]; exact hh)] at hu; cases hu
      obtain ⟨b, off, he, _, hc⟩ := hb (by omega)
      obtain rfl := Option.some.inj he
      rw [cellsOf_at bs j hj] at hu
      rw [Go.WideShapes.add_plain, hc j hj, hu]
    · intro u hu
      obtain ⟨b, _, rfl⟩ := List.mem_map.1 hu
      rfl
    · intro v' w' h1 h2 _
      exact h v' w' (by rw [cellsOf_append]; exact h1) h2

/-- what is told of a row of numbers that came in -/
def IsRow (k : IntKind) (w : World) (a : Option Addr) (len cap : Nat) (zs : List Int) : Prop :=
  (a = none ∧ len = 0 ∧ cap = 0 ∧ zs = []) ∨
  ∃ x, a = some x ∧ len ≤ cap ∧ cap ≤ maxLen ∧ zs.length = cap ∧ (∀ i, i < zs.length → w.cell? (x.add i) = some (.int k (zs.getD i 0))) ∧ ∀ n ∈ zs, (Lit.int k n).wf = true
/-- numbers as bytes -/
def bytesOf (zs : List Int) : List UInt8 := zs.map fun n => UInt8.ofNat n.toNat
theorem cell_lt {w : World} {b off : Nat} {v : Value} (h : w.cell? ⟨b, off, none⟩ = some v) : b < w.heap.size := by
  rcases Nat.lt_or_ge b w.heap.size with hlt | hge
  · exact hlt
  · simp [World.cell?, Array.getElem?_eq_none hge] at h
theorem IsRow.bytes {w : World} {a : Option Addr} {len cap : Nat} {zs : List Int} (h : IsRow .u8 w a len cap zs) :
    ∃ bs : List UInt8, bs.length = len ∧ len ≤ cap ∧ cap ≤ maxLen ∧ (a = none → cap = 0) ∧ BytesAt w w.heap.size a bs := by
  rcases h with ⟨rfl, rfl, rfl, rfl⟩ | ⟨x, rfl, hl, hm, hz, hc, hw⟩
  · exact ⟨[], rfl, by omega, by unfold maxLen; omega, fun _ => rfl, BytesAt.nil _ _ _⟩
  · refine ⟨bytesOf (zs.take len), by simp [bytesOf]; omega, hl, hm, (fun hh => by cases hh), fun hn => ?_⟩
    have hn' : 0 < zs.length := by simp [bytesOf] at hn; omega
    obtain ⟨b, off, rfl, hc'⟩ := ints_at hc hn'
    have hat : ∀ j, j < zs.length → ∃ u : UInt8, zs.getD j 0 = (u.toNat : Int) ∧ UInt8.ofNat (zs.getD j 0).toNat = u := fun j hj => by
      have hj' : zs.getD j 0 = zs[j] := by simp [List.getD, hj]
      have hb := bounds_u8 (hw zs[j] (List.getElem_mem hj))
      refine ⟨UInt8.ofNat (zs.getD j 0).toNat, ?_, rfl⟩
      rw [hj', UInt8.toNat_ofNat']; omega
    refine ⟨b, off, rfl, cell_lt (hc' 0 hn'), fun j hj => ?_⟩
    have hj' : j < zs.length := by simp [bytesOf] at hj; omega
    obtain ⟨u, h1, h2⟩ := hat j hj'
    have h3 : (bytesOf (zs.take len))[j] = u := by
      rw [← h2]
      simp [bytesOf, List.getD, hj']
    rw [hc' j hj', h3, h1]
/-- a text of one byte -/
def oneB (x : Int) : ByteArray := ⟨#[UInt8.ofNat x.toNat]⟩
theorem oneB_size (x : Int) : (oneB x).size = 1 := rfl
theorem oneB_cat (x : Int) (s : ByteArray) : (oneB x ++ s).data.toList = UInt8.ofNat x.toNat :: s.data.toList := by
  simp [oneB, ByteArray.data_append]
/-- a slice of one byte, new, as a text -/
theorem conv_one (W : World) (x : Int) : (convert 22 9 (.slice (some ⟨W.heap.size, 0, none⟩) 1 1)).run Try.prog (W.alloc (.cells #[.int .u8 x] 5)) = .ok (.string (oneB x)) (W.alloc (.cells #[.int .u8 x] 5)) :=
  run_convert_bytes_arg _ 22 5 Try.underlying22 Try.underlying5 W.heap.size 0 1 1 [x] rfl (fun i hi => by
    obtain rfl : i = 0 := by omega
    simp) 9 Try.underlying9

theorem below_one {w wr : World} (h : Below w.heap.size w wr) (o : Obj) : Below w.heap.size w (wr.alloc o) := h.alloc h.size o

theorem below_new (X : World) (o : Obj) : Below X.heap.size X (X.alloc o) := below_one (Below.refl _ _) _
theorem below_iter (w : World) (s : ByteArray) (p : Nat) : Below w.heap.size w (w.iter s p) := (Below.refl _ _).alloc (Nat.le_refl _) _

end Go.Proofs.Ythpbhfepiekchaa

/- Bytes as texts. -/
namespace Go.Proofs.Ythpbhfepiekchaa
open Go.ChangeShapes Go.WideShapes Go.ChangeAt Go.RowKit
set_option linter.unusedVariables false

def strOf (bs : List UInt8) : ByteArray := ⟨bs.toArray⟩
theorem strOf_size (bs : List UInt8) : (strOf bs).size = bs.length := by simp [strOf, ByteArray.size]
theorem strOf_inj {a b : List UInt8} (h : strOf a = strOf b) : a = b := by
  have := congrArg ByteArray.data h
  simpa [strOf] using this
theorem strNums (bs : List UInt8) : strOfNums (bs.map fun b : UInt8 => (b.toNat : Int)) = strOf bs := by
  simp [strOfNums, strOf, List.map_map, Function.comp_def]
theorem conv_bytes (A : Option Addr) (bs : List UInt8) (m c B : Nat) (w : World) (hb : BytesAt w B A bs) (hm : bs.length = m) : (convert 22 9 (.slice A m c)).run Try.prog w = .ok (.string (strOf bs)) w := by
  subst hm
  rcases Nat.eq_zero_or_pos bs.length with h0 | h0
  · obtain rfl := List.eq_nil_of_length_eq_zero h0
    rw [show ([] : List UInt8).length = 0 from rfl, run_convert_bytes_string w 22 9 5 _ 0 c Try.underlying22 Try.underlying5 Try.underlying9]
    cases A <;> simp [Conv.bytesToString, loadCells]
    all_goals rfl
  · obtain ⟨b, off, rfl, _, hc⟩ := hb h0
    rw [run_convert_bytes_arg w 22 5 Try.underlying22 Try.underlying5 b off bs.length c (bs.map fun b : UInt8 => (b.toNat : Int)) (by simp) (fun i hi => by
      rw [hc i hi]
      simp [List.getD, hi]) 9 Try.underlying9, strNums]
end Go.Proofs.Ythpbhfepiekchaa
