/- Forms as lists of bytes: what is escaped, pieces, pairs, the way there and back. No program. -/
import Derived.Test.YtjfmlfakdijfjaaDoorStr
namespace Go.Proofs.YtjfmlfakdijfjaaDoor
set_option linter.unusedVariables false
set_option linter.unusedSimpArgs false

/-- what a digit stands for, small or great -/
def hexU (c : UInt8) : Option Nat :=
  if 48 ≤ c.toNat ∧ c.toNat ≤ 57 then some (c.toNat - 48) else if 97 ≤ c.toNat ∧ c.toNat ≤ 102 then some (c.toNat - 87) else if 65 ≤ c.toNat ∧ c.toNat ≤ 70 then some (c.toNat - 55) else none
/-- the digit of a number below 16, great; small -/
def upD (n : Nat) : UInt8 := if n < 10 then UInt8.ofNat (48 + n) else UInt8.ofNat (55 + n)
def loD (n : Nat) : UInt8 := if n < 10 then UInt8.ofNat (48 + n) else UInt8.ofNat (87 + n)
theorem hexU_up (n : Nat) (h : n < 16) : hexU (upD n) = some n := by
  have : ∀ k : Fin 16, hexU (upD k.val) = some k.val := by decide
  exact this ⟨n, h⟩
theorem hexU_lo (n : Nat) (h : n < 16) : hexU (loD n) = some n := by
  have : ∀ k : Fin 16, hexU (loD k.val) = some k.val := by decide
  exact this ⟨n, h⟩
theorem hexU_lt {c : UInt8} {n : Nat} (h : hexU c = some n) : n < 16 := by
  unfold hexU at h
  repeat' split at h
  all_goals first | (cases h; omega) | cases h
/-- Unescape -/
def unescL : List UInt8 → Option (List UInt8)
  | [] => some []
  | [c] => if c = 37 then none else some [if c = 43 then 32 else c]
  | [c, a] => if c = 37 then none else (unescL [a]).map ((if c = 43 then 32 else c) :: ·)
  | c :: a :: b :: r =>
    if c = 37 then
      match hexU a, hexU b with
      | some x, some y => (unescL r).map (UInt8.ofNat (16 * x + y) :: ·)
      | _, _ => none
    else (unescL (a :: b :: r)).map ((if c = 43 then 32 else c) :: ·)
theorem unesc_nil : unescL [] = some [] := by simp [unescL]
theorem unesc_sign (c : UInt8) (r : List UInt8) (h : c ≠ 37) : unescL (c :: r) = (unescL r).map ((if c = 43 then 32 else c) :: ·) := by
  match r with
  | [] => simp [unescL, h]
  | [a] => simp [unescL, h]
  | a :: b :: r => rw [unescL, if_neg h]
theorem unesc_pct (a b : UInt8) (r : List UInt8) (x y : Nat) (ha : hexU a = some x) (hb : hexU b = some y) : unescL (37 :: a :: b :: r) = (unescL r).map (UInt8.ofNat (16 * x + y) :: ·) := by
  rw [unescL, if_pos rfl, ha, hb]
theorem unesc_bad1 (a b : UInt8) (r : List UInt8) (ha : hexU a = none) : unescL (37 :: a :: b :: r) = none := by rw [unescL, if_pos rfl, ha]
theorem unesc_bad2 (a b : UInt8) (r : List UInt8) (hb : hexU b = none) : unescL (37 :: a :: b :: r) = none := by
  rw [unescL, if_pos rfl, hb]
  cases hexU a <;> rfl
theorem unesc_cut (r : List UInt8) (h : r.length < 2) : unescL (37 :: r) = none := by
  match r, h with
  | [], _ => simp [unescL]
  | [a], _ => simp [unescL]
theorem unesc_len {l m : List UInt8} (h : unescL l = some m) : m.length ≤ l.length := by
  suffices H : ∀ n (l m : List UInt8), l.length ≤ n → unescL l = some m → m.length ≤ l.length from H _ l m (Nat.le_refl _) h
  intro n
  induction n with
  | zero =>
    intro l m hl h
    have : l = [] := List.eq_nil_of_length_eq_zero (by omega)
    subst this
    rw [unesc_nil] at h
    cases h
    simp
  | succ n ih =>
    intro l m hl h
    cases l with
    | nil => rw [unesc_nil] at h; cases h; simp
    | cons c r =>
      by_cases hc : c = 37
      · subst hc
        by_cases hr : r.length < 2
        · rw [unesc_cut r hr] at h; cases h
        · match r, hr with
          | [], hr => exact absurd (by simp) hr
          | [a], hr => exact absurd (by simp) hr
          | a :: b :: r, _ =>
            cases ha : hexU a with
            | none => rw [unesc_bad1 a b r ha] at h; cases h
            | some x =>
              cases hb : hexU b with
              | none => rw [unesc_bad2 a b r hb] at h; cases h
              | some y =>
                rw [unesc_pct a b r x y ha hb] at h
                obtain ⟨m', h1, rfl⟩ := Option.map_eq_some_iff.1 h
                have := ih r m' (by simp at hl; omega) h1
                simp; omega
      · rw [unesc_sign c r hc] at h
        obtain ⟨m', h1, rfl⟩ := Option.map_eq_some_iff.1 h
        have := ih r m' (by simp at hl; omega) h1
        simp; omega
/-- may it stand as it is? -/
def keepF (c : UInt8) : Bool := (decide (97 ≤ c.toNat) && decide (c.toNat ≤ 122)) || (decide (65 ≤ c.toNat) && decide (c.toNat ≤ 90)) || (decide (48 ≤ c.toNat) && decide (c.toNat ≤ 57)) || decide (c.toNat = 45) || decide (c.toNat = 46) || decide (c.toNat = 95) || decide (c.toNat = 126)
def escF (c : UInt8) : List UInt8 := if keepF c = true then [c] else if c = 32 then [43] else [37, upD (c.toNat / 16), upD (c.toNat % 16)]
/-- Escape -/
def escapeL (l : List UInt8) : List UInt8 := l.flatMap escF
theorem escapeL_cons (c : UInt8) (r : List UInt8) : escapeL (c :: r) = escF c ++ escapeL r := by rw [escapeL, List.flatMap_cons]; rfl
theorem escapeL_append (a b : List UInt8) : escapeL (a ++ b) = escapeL a ++ escapeL b := by rw [escapeL, List.flatMap_append]; rfl
theorem escapeL_len (l : List UInt8) : (escapeL l).length ≤ 3 * l.length := by
  induction l with
  | nil => simp [escapeL]
  | cons c r ih =>
    rw [escapeL_cons, List.length_append, List.length_cons]
    have : (escF c).length ≤ 3 := by
      unfold escF
      split
      · simp
      · split <;> simp
    omega
theorem keepF_ne (c : UInt8) (h : keepF c = true) : c ≠ 37 ∧ c ≠ 43 := by
  constructor <;> (rintro rfl; revert h; decide)
theorem unesc_escF (c : UInt8) (r : List UInt8) : unescL (escF c ++ r) = (unescL r).map (c :: ·) := by
  unfold escF
  split
  · rename_i h
    obtain ⟨h1, h2⟩ := keepF_ne c h
    show unescL (c :: r) = _
    rw [unesc_sign c r h1, if_neg h2]
  · split
    · rename_i h
      subst h
      show unescL (43 :: r) = _
      rw [unesc_sign 43 r (by decide), if_pos rfl]
    · have h16 : c.toNat / 16 < 16 := by have := c.toNat_lt; omega
      show unescL (37 :: upD (c.toNat / 16) :: upD (c.toNat % 16) :: r) = _
      rw [unesc_pct _ _ r _ _ (hexU_up _ h16) (hexU_up _ (Nat.mod_lt _ (by decide)))]
      have e : UInt8.ofNat (16 * (c.toNat / 16) + c.toNat % 16) = c := by
        rw [show 16 * (c.toNat / 16) + c.toNat % 16 = c.toNat by omega]; simp
      rw [e]
theorem unesc_escape (l : List UInt8) : unescL (escapeL l) = some l := by
  induction l with
  | nil => simp [escapeL, unescL]
  | cons c r ih => rw [escapeL_cons, unesc_escF, ih]; rfl
theorem upD_sign (n : Nat) (h : n < 16) : 48 ≤ (upD n).toNat ∧ (upD n).toNat ≤ 70 ∧ (upD n).toNat ≠ 61 := by
  have : ∀ k : Fin 16, 48 ≤ (upD k.val).toNat ∧ (upD k.val).toNat ≤ 70 ∧ (upD k.val).toNat ≠ 61 := by decide
  exact this ⟨n, h⟩
/-- no sign of a form's is in what is escaped -/
theorem escape_signs (l : List UInt8) : ∀ b ∈ escapeL l, 32 < b.toNat ∧ b.toNat < 127 ∧ b.toNat ≠ 38 ∧ b.toNat ≠ 61 := by
  intro b hb
  obtain ⟨c, _, hc⟩ := List.mem_flatMap.1 hb
  unfold escF at hc
  split at hc
  · rename_i h
    simp at hc
    subst hc
    simp only [keepF, Bool.or_eq_true, Bool.and_eq_true, decide_eq_true_eq] at h
    omega
  · split at hc
    · simp at hc; subst hc; decide
    · have h16 : c.toNat / 16 < 16 := by have := c.toNat_lt; omega
      have u1 := upD_sign _ h16
      have u2 := upD_sign (c.toNat % 16) (Nat.mod_lt _ (by decide))
      simp at hc
      rcases hc with rfl | rfl | rfl
      · decide
      · omega
      · omega

/-! ### pieces -/
def splitL (sep : UInt8) : List UInt8 → List (List UInt8)
  | [] => [[]]
  | a :: r =>
    if a = sep then [] :: splitL sep r
    else match splitL sep r with
      | [] => [[a]]
      | p :: ps => (a :: p) :: ps
theorem split_ne (sep : UInt8) (l : List UInt8) : splitL sep l ≠ [] := by
  cases l with
  | nil => simp [splitL]
  | cons a r =>
    simp only [splitL]
    split
    · simp
    · split <;> simp
theorem split_sep (sep : UInt8) (r : List UInt8) : splitL sep (sep :: r) = [] :: splitL sep r := by simp [splitL]
theorem split_other (sep a : UInt8) (r : List UInt8) (h : a ≠ sep) : ∃ p ps, splitL sep r = p :: ps ∧ splitL sep (a :: r) = (a :: p) :: ps := by
  cases e : splitL sep r with
  | nil => exact absurd e (split_ne sep r)
  | cons p ps => exact ⟨p, ps, rfl, by simp [splitL, h, e]⟩
theorem split_append (sep : UInt8) (x y : List UInt8) : splitL sep (x ++ sep :: y) = splitL sep x ++ splitL sep y := by
  induction x with
  | nil => simp [splitL]
  | cons a r ih =>
    by_cases h : a = sep
    · subst h
      rw [List.cons_append, split_sep, split_sep, ih]; rfl
    · obtain ⟨p, ps, e1, e2⟩ := split_other sep a r h
      obtain ⟨q, qs, f1, f2⟩ := split_other sep a (r ++ sep :: y) h
      rw [List.cons_append, f2, e2]
      rw [ih, e1] at f1
      simp only [List.cons_append, List.cons.injEq] at f1
      rw [← f1.1, ← f1.2]; rfl
theorem split_none (sep : UInt8) (x : List UInt8) (h : sep ∉ x) : splitL sep x = [x] := by
  induction x with
  | nil => rfl
  | cons a r ih =>
    have ha : a ≠ sep := fun e => h (by simp [e])
    have hr : sep ∉ r := fun e => h (by simp [e])
    obtain ⟨p, ps, e1, e2⟩ := split_other sep a r ha
    rw [ih hr] at e1
    cases e1
    exact e2
/-- pieces with a sign between -/
def joinL (sep : UInt8) : List (List UInt8) → List UInt8
  | [] => []
  | [p] => p
  | p :: q :: ps => p ++ sep :: joinL sep (q :: ps)
theorem joinL_append (sep : UInt8) (a b : List (List UInt8)) (ha : a ≠ []) (hb : b ≠ []) : joinL sep (a ++ b) = joinL sep a ++ sep :: joinL sep b := by
  induction a with
  | nil => exact absurd rfl ha
  | cons p ps ih =>
    cases ps with
    | nil =>
      cases b with
      | nil => exact absurd rfl hb
      | cons q qs => rfl
    | cons q qs =>
      have := ih (by simp)
      show p ++ sep :: joinL sep ((q :: qs) ++ b) = _
      rw [this]
      show _ = (p ++ sep :: joinL sep (q :: qs)) ++ _
      simp
theorem split_join (sep : UInt8) (ps : List (List UInt8)) (hn : ps ≠ []) (h : ∀ p ∈ ps, sep ∉ p) : splitL sep (joinL sep ps) = ps := by
  induction ps with
  | nil => exact absurd rfl hn
  | cons p ps ih =>
    have hp := split_none sep p (h p (by simp))
    cases ps with
    | nil => exact hp
    | cons q qs =>
      show splitL sep (p ++ sep :: joinL sep (q :: qs)) = _
      rw [split_append, hp, ih (by simp) (fun x hx => h x (by simp [hx]))]
      rfl

/-! ### pairs -/
abbrev PairL := List UInt8 × List UInt8
def cutN (p : List UInt8) : List UInt8 := (splitL 61 p).headD []
def cutV (p : List UInt8) : List UInt8 := p.drop ((cutN p).length + 1)
def pieceL (p : List UInt8) : Option PairL :=
  match unescL (cutN p), unescL (cutV p) with
  | some n, some v => if n = [] then none else some (n, v)
  | _, _ => none
def piecesL : List (List UInt8) → Option (List PairL)
  | [] => some []
  | p :: ps => match pieceL p with
    | none => none
    | some x => (piecesL ps).map (x :: ·)
/-- Parse: the pairs, and the error -/
def parseL (b : List UInt8) : List PairL × Nat :=
  if b = [] then ([], 0) else if 30 < (splitL 38 b).length then ([], 3) else match piecesL (splitL 38 b) with
    | none => ([], 10)
    | some l => (l, 0)
def pairT (x : PairL) : List UInt8 := escapeL x.1 ++ 61 :: escapeL x.2
/-- Print -/
def printL (l : List PairL) : List UInt8 := joinL 38 (l.map pairT)
/-- Get -/
def getL (l : List PairL) (n : List UInt8) : Option (List UInt8) :=
  match l.filter (fun x => decide (x.1 = n)) with
  | [x] => some x.2
  | _ => none
theorem cutN_pair (n v : List UInt8) : cutN (escapeL n ++ 61 :: v) = escapeL n := by
  have h : (61 : UInt8) ∉ escapeL n := fun h => absurd rfl (escape_signs n 61 h).2.2.2
  rw [cutN, split_append, split_none 61 _ h]; rfl
theorem cutV_pair (n v : List UInt8) : cutV (escapeL n ++ 61 :: v) = v := by
  rw [cutV, cutN_pair]
  simp
theorem piece_pair (x : PairL) : pieceL (pairT x) = if x.1 = [] then none else some x := by
  rw [pieceL, pairT, cutN_pair, cutV_pair, unesc_escape, unesc_escape]
theorem pairT_sep (x : PairL) : (38 : UInt8) ∉ pairT x := by
  intro h
  rw [pairT, List.mem_append, List.mem_cons] at h
  rcases h with h | h | h
  · exact absurd rfl (escape_signs _ _ h).2.2.1
  · exact absurd h (by decide)
  · exact absurd rfl (escape_signs _ _ h).2.2.1
theorem pieces_named (l : List PairL) (h : ∀ x ∈ l, x.1 ≠ []) : piecesL (l.map pairT) = some l := by
  induction l with
  | nil => rfl
  | cons x r ih =>
    rw [List.map_cons, piecesL, piece_pair, if_neg (h x (by simp)), ih (fun y hy => h y (by simp [hy]))]
    rfl
theorem pieces_unnamed (l : List PairL) (h : ∃ x ∈ l, x.1 = []) : piecesL (l.map pairT) = none := by
  induction l with
  | nil => obtain ⟨x, hx, _⟩ := h; cases hx
  | cons x r ih =>
    rw [List.map_cons, piecesL, piece_pair]
    by_cases hx : x.1 = []
    · rw [if_pos hx]
    · rw [if_neg hx]
      obtain ⟨y, hy, he⟩ := h
      have : ∃ y ∈ r, y.1 = [] := by
        rcases List.mem_cons.1 hy with rfl | hy
        · exact absurd he hx
        · exact ⟨y, hy, he⟩
      rw [ih this]; rfl
theorem split_print (l : List PairL) (hl : l ≠ []) : splitL 38 (printL l) = l.map pairT := by
  refine split_join 38 _ (by simpa using hl) fun p hp => ?_
  obtain ⟨x, _, rfl⟩ := List.mem_map.1 hp
  exact pairT_sep x
theorem print_nil : printL [] = [] := rfl
theorem print_ne (l : List PairL) (hl : l ≠ []) : printL l ≠ [] := by
  intro h
  have := split_print l hl
  rw [h] at this
  cases l with
  | nil => exact hl rfl
  | cons x r =>
    rw [show splitL 38 [] = [[]] from rfl, List.map_cons] at this
    have h1 := (List.cons.inj this).1
    rw [pairT] at h1
    simp at h1
theorem print_append (a b : List PairL) (ha : a ≠ []) (hb : b ≠ []) : printL (a ++ b) = printL a ++ 38 :: printL b := by
  rw [printL, List.map_append, joinL_append 38 _ _ (by simpa using ha) (by simpa using hb)]; rfl
/-- there and back -/
theorem parse_print (l : List PairL) (hn : ∀ x ∈ l, x.1 ≠ []) (h30 : l.length ≤ 30) : parseL (printL l) = (l, 0) := by
  by_cases hl : l = []
  · subst hl; rfl
  · rw [parseL, if_neg (print_ne l hl), split_print l hl, List.length_map, if_neg (by omega), pieces_named l hn]
theorem parse_unnamed (l : List PairL) (hn : ∃ x ∈ l, x.1 = []) (h30 : l.length ≤ 30) : parseL (printL l) = ([], 10) := by
  have hl : l ≠ [] := by rintro rfl; obtain ⟨x, hx, _⟩ := hn; cases hx
  rw [parseL, if_neg (print_ne l hl), split_print l hl, List.length_map, if_neg (by omega), pieces_unnamed l hn]
theorem parse_many (l : List PairL) (h30 : 30 < l.length) : parseL (printL l) = ([], 3) := by
  have hl : l ≠ [] := by rintro rfl; simp at h30
  rw [parseL, if_neg (print_ne l hl), split_print l hl, List.length_map, if_pos h30]
theorem get_none (l : List PairL) (n : List UInt8) (h : ∀ x ∈ l, x.1 ≠ n) : getL l n = none := by
  have : l.filter (fun x => decide (x.1 = n)) = [] := List.filter_eq_nil_iff.2 fun x hx => by simp [h x hx]
  rw [getL, this]
theorem get_one (l : List PairL) (n v : List UInt8) (h : ∀ x ∈ l, x.1 ≠ n) : getL (l ++ [(n, v)]) n = some v := by
  have : l.filter (fun x => decide (x.1 = n)) = [] := List.filter_eq_nil_iff.2 fun x hx => by simp [h x hx]
  rw [getL, List.filter_append, this]
  simp
theorem get_two (l : List PairL) (n v u : List UInt8) (h : ∀ x ∈ l, x.1 ≠ n) : getL (l ++ [(n, v)] ++ [(n, u)]) n = none := by
  have : l.filter (fun x => decide (x.1 = n)) = [] := List.filter_eq_nil_iff.2 fun x hx => by simp [h x hx]
  rw [getL, List.filter_append, List.filter_append, this]
  simp
end Go.Proofs.YtjfmlfakdijfjaaDoor
