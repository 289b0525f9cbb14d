/- Requests as lists of bytes: lines, a first line, fields, bodies. No program. -/
import Derived.Test.YtjfmlfakdijfjaaDoorHeadPlain
import Derived.Lib.Index
namespace Go.Proofs.YtjfmlfakdijfjaaDoor
set_option linter.unusedVariables false
set_option linter.unusedSimpArgs false

/-- what stands ahead of the first such end, and behind it -/
def cutS (sep : List UInt8) : List UInt8 → Option (List UInt8 × List UInt8)
  | [] => none
  | a :: r => if sep.isPrefixOf (a :: r) then some ([], (a :: r).drop sep.length) else (cutS sep r).map fun x => (a :: x.1, x.2)
theorem cut_is {sep : List UInt8} : ∀ {l x y : List UInt8}, cutS sep l = some (x, y) → l = x ++ sep ++ y
  | [], x, y, h => by simp [cutS] at h
  | a :: r, x, y, h => by
    unfold cutS at h
    by_cases hp : sep.isPrefixOf (a :: r) = true
    · rw [if_pos hp] at h
      cases h
      obtain ⟨t, ht⟩ := List.isPrefixOf_iff_prefix.1 hp
      rw [← ht]; simp
    · rw [if_neg hp] at h
      cases hc : cutS sep r with
      | none => rw [hc] at h; simp at h
      | some z =>
        obtain ⟨x', y'⟩ := z
        rw [hc] at h
        simp at h
        obtain ⟨rfl, rfl⟩ := h
        have := cut_is hc
        simp [this]
/-- the model's index, in these words -/
theorem cut_index (sep : List UInt8) (hs : sep ≠ []) : ∀ l : List UInt8, Lib.index l sep = match cutS sep l with | none => -1 | some x => (x.1.length : Int)
  | [] => by
    unfold Lib.index cutS
    cases sep with
    | nil => exact absurd rfl hs
    | cons a t => rfl
  | a :: r => by
    unfold Lib.index cutS
    have ih := cut_index sep hs r
    by_cases hp : sep.isPrefixOf (a :: r) = true
    · rw [if_pos hp, if_pos hp]; rfl
    · rw [if_neg hp, if_neg hp, ih]
      cases hc : cutS sep r with
      | none => rfl
      | some z =>
        have h1 : ((z.1.length : Int) == -1) = false := by rw [beq_eq_false_iff_ne]; omega
        show (if ((z.1.length : Int) == -1) = true then (-1 : Int) else (z.1.length : Int) + 1) = _
        rw [h1]
        simp
theorem cut_len {sep l x y : List UInt8} (h : cutS sep l = some (x, y)) : l.length = x.length + sep.length + y.length := by
  have := congrArg List.length (cut_is h)
  simp only [List.length_append] at this
  exact this
theorem cut_take {sep l x y : List UInt8} (h : cutS sep l = some (x, y)) : l.take x.length = x ∧ l.drop (x.length + sep.length) = y := by
  have := cut_is h
  subst this
  constructor
  · simp
  · rw [← List.length_append]; simp
/-- the first place -/
theorem cut_first {sep : List UInt8} (hs : sep ≠ []) : ∀ {l : List UInt8} {i : Nat}, (∀ j, j < i → sep.isPrefixOf (l.drop j) = false) → sep.isPrefixOf (l.drop i) = true → cutS sep l = some (l.take i, l.drop (i + sep.length))
  | [], i, hn, h => by
    cases sep with
    | nil => exact absurd rfl hs
    | cons a t => simp at h
  | a :: r, 0, hn, h => by
    unfold cutS
    rw [List.drop_zero] at h
    rw [if_pos h]
    simp
  | a :: r, i + 1, hn, h => by
    unfold cutS
    have h0 := hn 0 (Nat.succ_pos _)
    rw [List.drop_zero] at h0
    rw [if_neg (by rw [h0]; simp), cut_first hs (fun j hj => by simpa using hn (j + 1) (Nat.succ_lt_succ hj)) (by simpa using h)]
    simp [Nat.add_right_comm]
theorem cut_none {sep : List UInt8} : ∀ {l : List UInt8}, (∀ j, j < l.length → sep.isPrefixOf (l.drop j) = false) → cutS sep l = none
  | [], hn => rfl
  | a :: r, hn => by
    unfold cutS
    have h0 := hn 0 (by simp)
    rw [List.drop_zero] at h0
    rw [if_neg (by rw [h0]; simp), cut_none (fun j hj => by simpa using hn (j + 1) (by simpa using hj))]
    rfl
/-- an end whose first byte does not stand ahead of it -/
theorem cut_app (a : UInt8) (t : List UInt8) : ∀ (x r : List UInt8), a ∉ x → cutS (a :: t) (x ++ (a :: t) ++ r) = some (x, r)
  | [], r, h => by
    show cutS (a :: t) (a :: (t ++ r)) = _
    unfold cutS
    have hp : (a :: t).isPrefixOf (a :: (t ++ r)) = true := List.isPrefixOf_iff_prefix.2 ⟨r, by simp⟩
    rw [if_pos hp]
    simp
  | b :: x, r, h => by
    have hb : ¬ a = b := fun e => h (by simp [e])
    show cutS (a :: t) (b :: (x ++ (a :: t) ++ r)) = _
    unfold cutS
    have hp : (a :: t).isPrefixOf (b :: (x ++ (a :: t) ++ r)) = false := by
      have : (a == b) = false := by simpa using hb
      simp [List.isPrefixOf, this]
    rw [if_neg (by rw [hp]; simp), cut_app a t x r (fun hm => h (by simp [hm]))]
    rfl
theorem cut_free0 (a : UInt8) (t : List UInt8) : ∀ (x : List UInt8), a ∉ x → cutS (a :: t) x = none
  | [], h => rfl
  | b :: x, h => by
    have hb : ¬ a = b := fun e => h (by simp [e])
    unfold cutS
    have hp : (a :: t).isPrefixOf (b :: x) = false := by
      have : (a == b) = false := by simpa using hb
      simp [List.isPrefixOf, this]
    rw [if_neg (by rw [hp]; simp), cut_free0 a t x (fun hm => h (by simp [hm]))]
    rfl

/-! ### lines -/
def crlf : List UInt8 := [13, 10]
theorem cut_crlf (x r : List UInt8) (h : (13 : UInt8) ∉ x) : cutS crlf (x ++ crlf ++ r) = some (x, r) := cut_app 13 [10] x r h
def linesF : Nat → List UInt8 → Option (List (List UInt8) × List UInt8)
  | 0, _ => none
  | n + 1, l =>
    match cutS crlf l with
    | none => none
    | some x => if x.1 = [] then some ([], x.2) else (linesF n x.2).map fun z => (x.1 :: z.1, z.2)
theorem lines_more : ∀ (n m : Nat) (l : List UInt8), l.length < n → l.length < m → linesF n l = linesF m l
  | 0, m, l, h, _ => by omega
  | n + 1, 0, l, _, h => by omega
  | n + 1, m + 1, l, h1, h2 => by
    unfold linesF
    cases hc : cutS crlf l with
    | none => rfl
    | some x =>
      have := cut_len (x := x.1) (y := x.2) hc
      simp only [crlf, List.length_cons, List.length_nil] at this
      simp only
      rw [lines_more n m x.2 (by omega) (by omega)]
/-- the lines ahead of an empty one, and what stands behind that -/
def linesL (l : List UInt8) : Option (List (List UInt8) × List UInt8) := linesF (l.length + 1) l
theorem lines_none {l : List UInt8} (h : cutS crlf l = none) : linesL l = none := by unfold linesL linesF; rw [h]
theorem lines_end {l y : List UInt8} (h : cutS crlf l = some ([], y)) : linesL l = some ([], y) := by unfold linesL linesF; rw [h]; simp
theorem lines_step {l x y : List UInt8} (h : cutS crlf l = some (x, y)) (hx : x ≠ []) : linesL l = (linesL y).map fun z => (x :: z.1, z.2) := by
  unfold linesL
  rw [linesF, h]
  have := cut_len h
  simp only [crlf, List.length_cons, List.length_nil] at this
  simp only
  rw [if_neg hx, lines_more l.length (y.length + 1) y (by omega) (by omega)]
theorem lines_len : ∀ {n : Nat} {l : List UInt8} {ls : List (List UInt8)} {r : List UInt8}, linesF n l = some (ls, r) → ls.length + r.length + 2 ≤ l.length ∧ (∀ x ∈ ls, x.length ≤ l.length) ∧ l.drop (l.length - r.length) = r
  | 0, l, ls, r, h => by simp [linesF] at h
  | n + 1, l, ls, r, h => by
    unfold linesF at h
    cases hc : cutS crlf l with
    | none => rw [hc] at h; simp at h
    | some x =>
      have hl := cut_len (x := x.1) (y := x.2) hc
      have hl0 := hl
      simp only [crlf, List.length_cons, List.length_nil] at hl
      have ht := (cut_take (x := x.1) (y := x.2) hc).2
      simp only [crlf, List.length_cons, List.length_nil] at ht
      rw [hc] at h
      simp only at h
      by_cases h0 : x.1 = []
      · rw [if_pos h0] at h
        cases h
        rw [h0] at hl ht
        simp only [List.length_nil] at hl ht
        refine ⟨by simp; omega, by simp, ?_⟩
        rw [show l.length - x.2.length = 0 + (0 + 1 + 1) by omega]; exact ht
      · rw [if_neg h0] at h
        cases hf : linesF n x.2 with
        | none => rw [hf] at h; simp at h
        | some z =>
          rw [hf] at h
          simp at h
          obtain ⟨rfl, rfl⟩ := h
          obtain ⟨i1, i2, i3⟩ := lines_len (ls := z.1) (r := z.2) hf
          have hx1 : 0 < x.1.length := (List.length_pos_iff.2 h0)
          refine ⟨by simp; omega, ?_, ?_⟩
          · intro u hu
            rcases List.mem_cons.1 hu with rfl | hu
            · omega
            · have := i2 u hu; omega
          · have hd : l.drop (l.length - z.2.length) = x.2.drop (x.2.length - z.2.length) := by
              rw [← ht, List.drop_drop]
              congr 1
              rw [List.length_drop]
              omega
            rw [hd]
            exact i3
/-- lines one behind the other -/
def linesJ (ls : List (List UInt8)) : List UInt8 := ls.flatMap fun x => x ++ crlf
theorem lines_join : ∀ (ls : List (List UInt8)) (r : List UInt8), (∀ x ∈ ls, x ≠ [] ∧ (13 : UInt8) ∉ x) → linesL (linesJ ls ++ crlf ++ r) = some (ls, r)
  | [], r, h => by
    refine lines_end (l := crlf ++ r) ?_
    exact cut_app 13 [10] [] r (by simp)
  | x :: ls, r, h => by
    obtain ⟨h1, h2⟩ := h x (by simp)
    have e : linesJ (x :: ls) ++ crlf ++ r = x ++ crlf ++ (linesJ ls ++ crlf ++ r) := by simp [linesJ]
    rw [e, lines_step (cut_crlf x _ h2) h1, lines_join ls r (fun y hy => h y (by simp [hy]))]
    rfl
theorem lines_open : ∀ (ls : List (List UInt8)), (∀ x ∈ ls, x ≠ [] ∧ (13 : UInt8) ∉ x) → linesL (linesJ ls) = none
  | [], h => rfl
  | x :: ls, h => by
    obtain ⟨h1, h2⟩ := h x (by simp)
    have e : linesJ (x :: ls) = x ++ crlf ++ linesJ ls := by simp [linesJ]
    rw [e, lines_step (cut_crlf x _ h2) h1, lines_open ls (fun y hy => h y (by simp [hy]))]
    rfl

/-! ### a first line, fields, a body -/
def verL : List UInt8 := [72, 84, 84, 80, 47, 49, 46, 49]
def inPath (c : UInt8) : Bool := decide (33 ≤ c.toNat) && decide (c.toNat ≤ 126)
def pathL (l : List UInt8) : Bool := decide (l.head? = some 47) && l.all inPath
/-- the two words ahead of the version -/
def wordsL (l : List UInt8) : Option (List UInt8 × List UInt8 × List UInt8) :=
  match cutS [32] l with
  | none => none
  | some x => (cutS [32] x.2).map fun y => (x.1, y.1, y.2)
def firstOk (z : List UInt8 × List UInt8 × List UInt8) : Bool := decide (z.2.2 = verL) && (tokenL z.1 && pathL z.2.1)
def firstL (l : List UInt8) : PairL × Nat :=
  if 2000 < l.length then (PairZ, 3)
  else match wordsL l with
    | none => (PairZ, 11)
    | some z => if firstOk z then ((z.1, z.2.1), 0) else (PairZ, 11)
/-- the first line that is no field -/
def badL (ls : List (List UInt8)) : Option (List UInt8) := ls.find? fun x => decide ((fieldL x).2 ≠ 0)
def fieldsL (ls : List (List UInt8)) : List PairL × Nat :=
  if 40 < ls.length then ([], 3)
  else match badL ls with
    | some x => ([], (fieldL x).2)
    | none => (ls.map fun x => (fieldL x).1, 0)
def hostL : List UInt8 := [72, 111, 115, 116]
def lengL : List UInt8 := [67, 111, 110, 116, 101, 110, 116, 45, 76, 101, 110, 103, 116, 104]
def codeL : List UInt8 := [84, 114, 97, 110, 115, 102, 101, 114, 45, 69, 110, 99, 111, 100, 105, 110, 103]
/-- how long a body is to be; none: that can't be told -/
def wantL (ts : List (List UInt8)) : Option Nat :=
  match ts with
  | [] => some 0
  | t :: _ => if decB t 4000 then some (decN t) else none
def twiceB (fs : List PairL) : Bool := decide ((allL fs hostL).length = 1) && (decide ((allL fs codeL).length = 0) && decide ((allL fs lengL).length ≤ 1))
def bodyL (fs : List PairL) (n : Nat) : Nat := if twiceB fs then (if wantL (allL fs lengL) = some n then 0 else 13) else 14

structure ReqL where
  m : List UInt8
  p : List UInt8
  fs : List PairL
  body : List UInt8
def ReqZ : ReqL := ⟨[], [], [], []⟩
def reqL (b : List UInt8) : ReqL × Nat :=
  match linesL b with
  | none => (ReqZ, 10)
  | some ([], _) => (ReqZ, 10)
  | some (x :: ls, r) =>
    if (firstL x).2 ≠ 0 then (ReqZ, (firstL x).2)
    else if (fieldsL ls).2 ≠ 0 then (ReqZ, (fieldsL ls).2)
    else if bodyL (fieldsL ls).1 r.length ≠ 0 then (ReqZ, bodyL (fieldsL ls).1 r.length)
    else (⟨(firstL x).1.1, (firstL x).1.2, (fieldsL ls).1, r⟩, 0)
theorem fieldsL_small {ls : List (List UInt8)} (h : (fieldsL ls).2 = 0) : ls.length ≤ 40 ∧ (∀ x ∈ ls, (fieldL x).2 = 0) ∧ (fieldsL ls).1 = ls.map fun x => (fieldL x).1 := by
  unfold fieldsL at h ⊢
  by_cases h40 : 40 < ls.length
  · rw [if_pos h40] at h; cases h
  · rw [if_neg h40] at h ⊢
    cases hb : badL ls with
    | some x =>
      rw [hb] at h
      have := List.find?_some hb
      simp only [decide_eq_true_eq] at this
      exact absurd h this
    | none =>
      refine ⟨by omega, fun x hx => ?_, rfl⟩
      have := List.find?_eq_none.1 hb x hx
      simpa using this
theorem fieldsL_ok {ls : List (List UInt8)} (h1 : ls.length ≤ 40) (h2 : ∀ x ∈ ls, (fieldL x).2 = 0) : fieldsL ls = (ls.map fun x => (fieldL x).1, 0) := by
  unfold fieldsL
  have hb : badL ls = none := List.find?_eq_none.2 fun x hx => by simp [h2 x hx]
  rw [if_neg (by omega), hb]
theorem firstL_ok {l : List UInt8} (h : (firstL l).2 = 0) : l.length ≤ 2000 ∧ (firstL l).1.1.length ≤ 2000 ∧ (firstL l).1.2.length ≤ 2000 ∧ tokenL (firstL l).1.1 = true ∧ pathL (firstL l).1.2 = true := by
  unfold firstL at h ⊢
  by_cases h0 : 2000 < l.length
  · rw [if_pos h0] at h; cases h
  · rw [if_neg h0] at h ⊢
    cases hw : wordsL l with
    | none => rw [hw] at h; cases h
    | some z =>
      rw [hw] at h
      simp only at h ⊢
      cases hz : firstOk z
      · rw [hz] at h; cases h
      · simp only [if_true]
        have hz2 := hz
        simp only [firstOk, Bool.and_eq_true] at hz2
        refine ⟨by omega, ?_, ?_, hz2.2.1, hz2.2.2⟩
        all_goals
          unfold wordsL at hw
          cases hc : cutS [32] l with
          | none => rw [hc] at hw; cases hw
          | some x =>
            have hl1 := cut_len (x := x.1) (y := x.2) hc
            rw [hc] at hw
            simp only at hw
            cases hd : cutS [32] x.2 with
            | none => rw [hd] at hw; cases hw
            | some y =>
              have hl2 := cut_len (x := y.1) (y := y.2) hd
              rw [hd] at hw
              simp at hw
              subst hw
              simp at hl1 hl2 ⊢
              omega
theorem req_zero {b : List UInt8} (h : (reqL b).2 ≠ 0) : (reqL b).1 = ReqZ := by
  unfold reqL at h ⊢
  split at h <;> try rfl
  split <;> try rfl
  split <;> try rfl
  split <;> try rfl
  simp_all
end Go.Proofs.YtjfmlfakdijfjaaDoor
