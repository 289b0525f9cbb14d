/- Cookies as lists of bytes: pieces, a cookie, a field of cookies, what is set and read. No program. -/
import Derived.Test.YtjfmlfakdijfjaaDoorHttpPlain
namespace Go.Proofs.YtjfmlfakdijfjaaDoor
set_option linter.unusedVariables false
set_option linter.unusedSimpArgs false

def octB (c : UInt8) : Bool := decide (33 ≤ c.toNat) && (decide (c.toNat ≤ 126) && (decide (c.toNat ≠ 34) && (decide (c.toNat ≠ 44) && (decide (c.toNat ≠ 59) && decide (c.toNat ≠ 92)))))
def octL (l : List UInt8) : Bool := l.all octB
theorem octB_iff (c : UInt8) : octB c = true ↔ 33 ≤ c.toNat ∧ c.toNat ≤ 126 ∧ c.toNat ≠ 34 ∧ c.toNat ≠ 44 ∧ c.toNat ≠ 59 ∧ c.toNat ≠ 92 := by simp [octB]

/-! pieces: with a semicolon and a blank between -/
def scL : List UInt8 := [59, 32]
def pcsF : Nat → List UInt8 → List (List UInt8)
  | 0, l => [l]
  | n + 1, l =>
    match cutS scL l with
    | none => [l]
    | some x => x.1 :: pcsF n x.2
theorem pcs_more : ∀ (n m : Nat) (l : List UInt8), l.length < n → l.length < m → pcsF n l = pcsF m l
  | 0, m, l, h, _ => by omega
  | n + 1, 0, l, _, h => by omega
  | n + 1, m + 1, l, h1, h2 => by
    unfold pcsF
    cases hc : cutS scL l with
    | none => rfl
    | some x =>
      have := cut_len (x := x.1) (y := x.2) hc
      simp only [scL, List.length_cons, List.length_nil] at this
      simp only
      rw [pcs_more n m x.2 (by omega) (by omega)]
def pcsL (l : List UInt8) : List (List UInt8) := pcsF (l.length + 1) l
theorem pcs_last {l : List UInt8} (h : cutS scL l = none) : pcsL l = [l] := by unfold pcsL pcsF; rw [h]
theorem pcs_step {l x y : List UInt8} (h : cutS scL l = some (x, y)) : pcsL l = x :: pcsL y := by
  unfold pcsL
  rw [pcsF, h]
  have := cut_len h
  simp only [scL, List.length_cons, List.length_nil] at this
  simp only
  rw [pcs_more l.length (y.length + 1) y (by omega) (by omega)]
theorem pcs_ne (l : List UInt8) : pcsL l ≠ [] := by
  cases h : cutS scL l with
  | none => rw [pcs_last h]; simp
  | some x => rw [pcs_step (x := x.1) (y := x.2) h]; simp
theorem pcs_one {x : List UInt8} (h : (59 : UInt8) ∉ x) : pcsL x = [x] := pcs_last (cut_free0 59 [32] x h)
theorem pcs_app {x r : List UInt8} (h : (59 : UInt8) ∉ x) : pcsL (x ++ [59, 32] ++ r) = x :: pcsL r := pcs_step (cut_app 59 [32] x r h)
/-- with '; ' between -/
def joinC : List (List UInt8) → List UInt8
  | [] => []
  | [x] => x
  | x :: y :: r => x ++ [59, 32] ++ joinC (y :: r)
theorem joinC_cons (x : List UInt8) (r : List (List UInt8)) (h : r ≠ []) : joinC (x :: r) = x ++ [59, 32] ++ joinC r := by
  cases r with
  | nil => exact absurd rfl h
  | cons y r => rfl
theorem pcs_join : ∀ (ps : List (List UInt8)), ps ≠ [] → (∀ p ∈ ps, (59 : UInt8) ∉ p) → pcsL (joinC ps) = ps
  | [], h, _ => absurd rfl h
  | [x], _, h => pcs_one (h x (by simp))
  | x :: y :: r, _, h => by
    rw [joinC_cons x (y :: r) (by simp), pcs_app (h x (by simp)), pcs_join (y :: r) (by simp) (fun p hp => h p (by simp at hp ⊢; exact Or.inr hp))]
theorem pcs_len : ∀ (n : Nat) (l : List UInt8), l.length < n → (pcsL l).length ≤ l.length + 1 ∧ ∀ p ∈ pcsL l, p.length ≤ l.length
  | 0, l, h => by omega
  | n + 1, l, h => by
    cases hc : cutS scL l with
    | none => rw [pcs_last hc]; exact ⟨by simp, by simp⟩
    | some x =>
      have := cut_len (x := x.1) (y := x.2) hc
      simp only [scL, List.length_cons, List.length_nil] at this
      obtain ⟨h1, h2⟩ := pcs_len n x.2 (by omega)
      rw [pcs_step (x := x.1) (y := x.2) hc]
      refine ⟨by simp only [List.length_cons]; omega, fun p hp => ?_⟩
      rcases List.mem_cons.1 hp with rfl | hp
      · omega
      · have := h2 p hp; omega

/-! one cookie -/
def eqN (l : List UInt8) : List UInt8 := l.takeWhile fun c => decide (c ≠ 61)
def unqL (v : List UInt8) : List UInt8 := if 2 ≤ v.length ∧ v.head? = some 34 ∧ v.getLast? = some 34 then (v.drop 1).take (v.length - 2) else v
def cookieL (l : List UInt8) : Option PairL :=
  if (61 : UInt8) ∈ l then
    if tokenL (eqN l) = true ∧ octL (unqL (l.drop ((eqN l).length + 1))) = true then some (eqN l, unqL (l.drop ((eqN l).length + 1))) else none
  else none
theorem eqN_app (n r : List UInt8) (h : (61 : UInt8) ∉ n) : eqN (n ++ 61 :: r) = n := by
  unfold eqN
  rw [List.takeWhile_append_of_pos (fun c hc => by simp; rintro rfl; exact h hc)]
  simp
theorem eqN_at (l : List UInt8) (k : Nat) (hk : k < l.length) (h : l[k] = 61) (ha : ∀ j (hj : j < l.length), j < k → l[j] ≠ 61) : eqN l = l.take k := by
  have e : l = l.take k ++ 61 :: l.drop (k + 1) := by
    have := List.take_append_drop k l
    rw [List.drop_eq_getElem_cons hk, h] at this
    exact this.symm
  have hn : (61 : UInt8) ∉ l.take k := fun hm => by
    obtain ⟨j, hj, e⟩ := List.getElem_of_mem hm
    rw [List.length_take] at hj
    rw [List.getElem_take] at e
    exact ha j (by omega) (by omega) e
  generalize l.take k = n at *
  generalize l.drop (k + 1) = r at *
  rw [e]; exact eqN_app n r hn
theorem tok_no61 {l : List UInt8} (h : tokenL l = true) : (61 : UInt8) ∉ l := fun hm => by
  unfold tokenL at h
  rw [Bool.and_eq_true, List.all_eq_true] at h
  exact absurd (h.1 _ hm) (by decide +kernel)
theorem tok_no59 {l : List UInt8} (h : tokenL l = true) : (59 : UInt8) ∉ l := fun hm => by
  unfold tokenL at h
  rw [Bool.and_eq_true, List.all_eq_true] at h
  exact absurd (h.1 _ hm) (by decide +kernel)
theorem oct_no {l : List UInt8} (h : octL l = true) : (59 : UInt8) ∉ l ∧ (34 : UInt8) ∉ l := by
  unfold octL at h
  rw [List.all_eq_true] at h
  exact ⟨fun hm => absurd (h _ hm) (by decide), fun hm => absurd (h _ hm) (by decide)⟩
theorem unq_bare {v : List UInt8} (h : (34 : UInt8) ∉ v) : unqL v = v := by
  unfold unqL
  rw [if_neg]
  rintro ⟨_, h1, _⟩
  cases v with
  | nil => simp at h1
  | cons a r => simp at h1; exact h (by rw [h1]; simp)
theorem unq_two (v : List UInt8) : unqL ([34] ++ v ++ [34]) = v := by
  unfold unqL
  have h1 : (([34] ++ v ++ [34] : List UInt8)).length = v.length + 2 := by simp
  rw [if_pos ⟨by omega, by simp, List.getLast?_concat⟩, h1]
  simp
theorem unq_one {v : List UInt8} (h : octL v = true) : octL (unqL (34 :: v)) = false := by
  have hn := oct_no h
  unfold unqL
  rw [if_neg]
  · simp [octL, octB]
  · rintro ⟨h0, _, h2⟩
    have hv : v ≠ [] := by rintro rfl; simp at h0
    rw [List.getLast?_cons_of_ne_nil hv] at h2
    exact hn.2 (List.mem_of_getLast? h2)
theorem cookie_is {n v : List UInt8} (h : tokenL n = true) : cookieL (n ++ 61 :: v) = if octL (unqL v) = true then some (n, unqL v) else none := by
  have hn := tok_no61 h
  unfold cookieL
  rw [if_pos (by simp), eqN_app n v hn, h]
  rw [show (n ++ 61 :: v).drop (n.length + 1) = v by rw [← List.drop_drop, List.drop_left]; rfl]
  simp
theorem cookie_bare {n v : List UInt8} (h : tokenL n = true) (hv : octL v = true) : cookieL (n ++ 61 :: v) = some (n, v) := by
  rw [cookie_is h, unq_bare (oct_no hv).2, hv]; simp
theorem cookie_len {l : List UInt8} {p : PairL} (h : cookieL l = some p) : p.1.length ≤ l.length ∧ p.2.length ≤ l.length := by
  unfold cookieL at h
  split at h
  · split at h
    · cases h
      refine ⟨?_, ?_⟩
      · unfold eqN; exact (List.takeWhile_prefix _).length_le
      · show (unqL _).length ≤ _
        unfold unqL
        split <;> simp only [List.length_take, List.length_drop] <;> omega
    · simp at h
  · simp at h

/-! a field of cookies, and the session's -/
def allSome : List (Option PairL) → Option (List PairL)
  | [] => some []
  | none :: _ => none
  | some x :: r => (allSome r).map (x :: ·)
def cookiesL (l : List UInt8) : Option (List PairL) := if l = [] then some [] else allSome ((pcsL l).map cookieL)
theorem allSome_app (a b : List (Option PairL)) : allSome (a ++ b) = match allSome a, allSome b with | some x, some y => some (x ++ y) | _, _ => none := by
  induction a with
  | nil => simp only [List.nil_append, allSome]; cases allSome b <;> rfl
  | cons c r ih =>
    cases c with
    | none => simp [allSome]
    | some x =>
      simp only [List.cons_append, allSome, ih]
      cases allSome r <;> cases allSome b <;> simp
theorem allSome_none {a : List (Option PairL)} (h : none ∈ a) : allSome a = none := by
  induction a with
  | nil => simp at h
  | cons c r ih =>
    cases c with
    | none => rfl
    | some x =>
      have : none ∈ r := by simpa using h
      simp [allSome, ih this]
theorem allSome_map (l : List PairL) : allSome (l.map some) = some l := by
  induction l with
  | nil => rfl
  | cons x r ih => simp [allSome, ih]
def tellC (p : PairL) : List UInt8 := p.1 ++ 61 :: p.2
def okC (p : PairL) : Bool := tokenL p.1 && octL p.2
theorem tellC_ok {p : PairL} (h : okC p = true) : (59 : UInt8) ∉ tellC p ∧ tellC p ≠ [] ∧ cookieL (tellC p) = some p := by
  unfold okC at h
  rw [Bool.and_eq_true] at h
  refine ⟨?_, by simp [tellC], cookie_bare h.1 h.2⟩
  unfold tellC
  rw [List.mem_append, List.mem_cons]
  rintro (h1 | h1 | h1)
  · exact tok_no59 h.1 h1
  · exact absurd h1 (by decide)
  · exact (oct_no h.2).1 h1
theorem joinC_ne {ps : List (List UInt8)} (h : ps ≠ []) (h2 : ∀ p ∈ ps, p ≠ []) : joinC ps ≠ [] := by
  cases ps with
  | nil => exact absurd rfl h
  | cons x r =>
    cases r with
    | nil => exact h2 x (by simp)
    | cons y r => rw [joinC_cons x (y :: r) (by simp)]; simp
/-- there and back: cookies that may be, with '; ' between -/
theorem cookies_join {l : List PairL} (h : ∀ p ∈ l, okC p = true) (hl : l ≠ []) : cookiesL (joinC (l.map tellC)) = some l := by
  have hm : l.map tellC ≠ [] := by simpa using hl
  have h1 : ∀ p ∈ l.map tellC, (59 : UInt8) ∉ p ∧ p ≠ [] := fun p hp => by
    obtain ⟨x, hx, rfl⟩ := List.mem_map.1 hp
    exact ⟨(tellC_ok (h x hx)).1, (tellC_ok (h x hx)).2.1⟩
  unfold cookiesL
  rw [if_neg (joinC_ne hm fun p hp => (h1 p hp).2), pcs_join _ hm fun p hp => (h1 p hp).1, List.map_map]
  rw [show l.map (cookieL ∘ tellC) = l.map some from List.map_congr_left fun x hx => (tellC_ok (h x hx)).2.2, allSome_map]
theorem cookies_nil : cookiesL [] = some [] := rfl
/-- one piece that is none: none of all -/
theorem cookies_bad {ps : List (List UInt8)} (hs : ∀ p ∈ ps, (59 : UInt8) ∉ p) (hn : ∃ p ∈ ps, cookieL p = none) (hj : joinC ps ≠ []) : cookiesL (joinC ps) = none := by
  obtain ⟨p, hp, hc⟩ := hn
  unfold cookiesL
  rw [if_neg hj, pcs_join ps (by rintro rfl; simp at hp) hs, allSome_none (List.mem_map.2 ⟨p, hp, hc⟩)]
def hostN : List UInt8 := [95, 95, 72, 111, 115, 116, 45, 105, 100]
def idsC (l : List PairL) : List (List UInt8) := (l.filter fun x => decide (x.1 = hostN)).map (·.2)
def gatherC : List (List UInt8) → Option (List (List UInt8))
  | [] => some []
  | v :: r => match cookiesL v, gatherC r with
    | some l, some m => some (idsC l ++ m)
    | _, _ => none
def pickC : List (List UInt8) → List UInt8 × Bool
  | [] => ([], true)
  | [v] => (v, true)
  | _ :: _ :: _ => ([], false)
def sessC (ls : List (List UInt8)) : List UInt8 × Bool :=
  match gatherC ls with
  | none => ([], false)
  | some ids => pickC ids
theorem gather_app (a b : List (List UInt8)) : gatherC (a ++ b) = match gatherC a, gatherC b with | some x, some y => some (x ++ y) | _, _ => none := by
  induction a with
  | nil => simp only [List.nil_append, gatherC]; cases gatherC b <;> rfl
  | cons v r ih =>
    simp only [List.cons_append, gatherC, ih]
    cases cookiesL v <;> cases gatherC r <;> cases gatherC b <;> simp
theorem gather_bad {ls : List (List UInt8)} (h : ∃ v ∈ ls, cookiesL v = none) : gatherC ls = none := by
  obtain ⟨v, hv, hc⟩ := h
  induction ls with
  | nil => simp at hv
  | cons x r ih =>
    rcases List.mem_cons.1 hv with rfl | hv
    · simp [gatherC, hc]
    · rw [gatherC, ih hv]; cases cookiesL x <;> rfl

/-! what is set, and the way back -/
def ageL : List UInt8 := [59, 32, 77, 97, 120, 45, 65, 103, 101, 61]
def endL : List UInt8 := [59, 32, 80, 97, 116, 104, 61, 47, 59, 32, 83, 101, 99, 117, 114, 101, 59, 32, 72, 116, 116, 112, 79, 110, 108, 121, 59, 32, 83, 97, 109, 101, 83, 105, 116, 101, 61, 83, 116, 114, 105, 99, 116]
def setT (p : PairL) (n : Nat) : List UInt8 := p.1 ++ 61 :: p.2 ++ ageL ++ digL n ++ endL
def setOk (p : PairL) (age : Int) : Bool := okC p && (decide (0 ≤ age) && decide (age ≤ 999999999))
def setC (p : PairL) (age : Int) : List UInt8 × Nat := if setOk p age = true then (setT p age.toNat, 0) else ([], 1)
theorem setC_ok {p : PairL} {age : Int} (h : (setC p age).2 = 0) : setOk p age = true ∧ (setC p age).1 = setT p age.toNat ∧ okC p = true ∧ 0 ≤ age ∧ age ≤ 999999999 := by
  unfold setC at h ⊢
  by_cases hs : setOk p age = true
  · rw [if_pos hs]
    refine ⟨hs, rfl, ?_⟩
    unfold setOk at hs
    simpa using hs
  · rw [if_neg hs] at h; simp at h
def readZ : PairL × Int := (([], []), 0)
/-- the answer, of a candidate: is what it would set just this text? -/
def readC (c : Option (PairL × Int)) (s : List UInt8) : (PairL × Int) × Bool :=
  match c with
  | none => (readZ, false)
  | some x => if (setC x.1 x.2).2 = 0 ∧ (setC x.1 x.2).1 = s then (x, true) else (readZ, false)
def CandOk (f : List UInt8 → Option (PairL × Int)) : Prop := ∀ p age, (setC p age).2 = 0 → f (setC p age).1 = some (p, age)
theorem readC_back {f : List UInt8 → Option (PairL × Int)} (hf : CandOk f) {p : PairL} {age : Int} (h : (setC p age).2 = 0) : readC (f (setC p age).1) (setC p age).1 = ((p, age), true) := by
  rw [hf p age h]
  unfold readC
  simp only
  rw [if_pos (And.intro h trivial)]
theorem readC_two (c : Option (PairL × Int)) (s : List UInt8) : (∃ x : PairL × Int, readC c s = (x, true) ∧ (setC x.1 x.2).2 = 0 ∧ (setC x.1 x.2).1 = s) ∨ readC c s = (readZ, false) := by
  unfold readC
  cases c with
  | none => exact Or.inr rfl
  | some q =>
    simp only
    by_cases hq : (setC q.1 q.2).2 = 0 ∧ (setC q.1 q.2).1 = s
    · rw [if_pos hq]; exact Or.inl ⟨q, rfl, hq.1, hq.2⟩
    · rw [if_neg hq]; exact Or.inr rfl
/-- two ways to find the candidate, both right where something was set: the same answer -/
theorem readC_same {f g : List UInt8 → Option (PairL × Int)} (hf : CandOk f) (hg : CandOk g) (s : List UInt8) : readC (f s) s = readC (g s) s := by
  rcases readC_two (f s) s with ⟨x, h, h1, h2⟩ | h
  · rw [h, ← h2, readC_back hg h1]
  · rcases readC_two (g s) s with ⟨x, h', h1, h2⟩ | h'
    · rw [h', ← h2, readC_back hf h1]
    · rw [h, h']
theorem dig_no {n : Nat} : (59 : UInt8) ∉ digL n := fun hm => by
  have := (digL_facts n).1
  rw [List.all_eq_true] at this
  exact absurd (this _ hm) (by decide)
/-- the six pieces of what is set -/
theorem set_pcs {p : PairL} {n : Nat} (h : okC p = true) : pcsL (setT p n) = [p.1 ++ 61 :: p.2, [77, 97, 120, 45, 65, 103, 101, 61] ++ digL n, [80, 97, 116, 104, 61, 47], [83, 101, 99, 117, 114, 101], [72, 116, 116, 112, 79, 110, 108, 121], [83, 97, 109, 101, 83, 105, 116, 101, 61, 83, 116, 114, 105, 99, 116]] := by
  have e : setT p n = joinC [p.1 ++ 61 :: p.2, [77, 97, 120, 45, 65, 103, 101, 61] ++ digL n, [80, 97, 116, 104, 61, 47], [83, 101, 99, 117, 114, 101], [72, 116, 116, 112, 79, 110, 108, 121], [83, 97, 109, 101, 83, 105, 116, 101, 61, 83, 116, 114, 105, 99, 116]] := by
    simp [setT, joinC, ageL, endL]
  rw [e]
  refine pcs_join _ (by simp) ?_
  intro q hq
  simp only [List.mem_cons, List.not_mem_nil, or_false] at hq
  rcases hq with rfl | rfl | rfl | rfl | rfl | rfl
  · exact (tellC_ok h).1
  · rw [List.mem_append]; rintro (h1 | h1)
    · exact absurd h1 (by decide)
    · exact dig_no h1
  all_goals decide
theorem setT_len {p : PairL} {n : Nat} (h : n < 1000000000) : (setT p n).length ≤ p.1.length + p.2.length + 63 := by
  have := (digL_nine n).2 h
  simp only [setT, List.length_append, List.length_cons, ageL, endL, List.length_nil]
  omega
/-- the reference's candidate: six pieces, the first one's name, the second one's digits -/
def candD (s : List UInt8) : Option (PairL × Int) :=
  if (pcsL s).length = 6 ∧ 8 ≤ ((pcsL s).getD 1 []).length ∧ (61 : UInt8) ∈ (pcsL s).getD 0 [] then
    some ((eqN ((pcsL s).getD 0 []), ((pcsL s).getD 0 []).drop ((eqN ((pcsL s).getD 0 [])).length + 1)), decV (((pcsL s).getD 1 []).drop 8) 999999999)
  else none
theorem candD_ok : CandOk candD := fun p age h => by
  obtain ⟨_, e, h2, h3, h4⟩ := setC_ok h
  have hk := h2
  unfold okC at hk
  rw [Bool.and_eq_true] at hk
  rw [e]
  unfold candD
  rw [set_pcs h2]
  have hd : decV (digL age.toNat) 999999999 = age := by
    have h5 := decV_digL age.toNat (by omega)
    obtain ⟨d1, d2, d3⟩ := digL_facts age.toNat
    have d4 := (digL_nine age.toNat).2 (by omega)
    have hb : decB (digL age.toNat) 999999999 = true := by
      unfold decB; rw [d1, d2]; simp [d3, d4]; omega
    rw [decV_true hb, d2]; omega
  simp only [List.getD_cons_zero, List.getD_cons_succ]
  rw [if_pos ⟨rfl, by simp, by simp⟩, eqN_app p.1 p.2 (tok_no61 hk.1)]
  rw [show (p.1 ++ 61 :: p.2).drop (p.1.length + 1) = p.2 by rw [← List.drop_drop, List.drop_left]; rfl]
  rw [show ([77, 97, 120, 45, 65, 103, 101, 61] ++ digL age.toNat : List UInt8).drop 8 = digL age.toNat from rfl, hd]
def readL (s : List UInt8) : (PairL × Int) × Bool := readC (candD s) s
theorem readL_back {p : PairL} {age : Int} (h : (setC p age).2 = 0) : readL (setC p age).1 = ((p, age), true) := readC_back candD_ok h

/-! names that begin with one of two fronts -/
def hostF : List UInt8 := [95, 95, 72, 111, 115, 116, 45]
def secF : List UInt8 := [95, 95, 83, 101, 99, 117, 114, 101, 45]
def beginsL (s f : List UInt8) : Bool := decide (f.length ≤ s.length) && sameL (s.take f.length) f
def prefL (name : List UInt8) (secure : Bool) (path : List UInt8) (domain : Bool) : Bool :=
  if beginsL name hostF = true then secure && (decide (path = [47]) && !domain) else !beginsL name secF || secure
theorem begins_app {a r f : List UInt8} (h : smallL a = smallL f) : beginsL (a ++ r) f = true := by
  have hl : a.length = f.length := by have := congrArg List.length h; simpa [smallL] using this
  unfold beginsL sameL
  rw [← hl, List.take_left]
  simp [h]
end Go.Proofs.YtjfmlfakdijfjaaDoor
