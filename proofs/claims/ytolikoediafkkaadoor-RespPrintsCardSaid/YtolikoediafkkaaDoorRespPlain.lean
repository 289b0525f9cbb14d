/- Responses: plain. -/
import Derived.Test.YtolikoediafkkaaDoorDigPlain
import Derived.Test.YtolikoediafkkaaDoorRefHttpLines
namespace Go.Proofs.YtolikoediafkkaaDoor
set_option linter.unusedVariables false
set_option linter.unusedSimpArgs false

/-- what the statuses are called -/
def reasonsT : List (Int × List UInt8) :=
  [(200, [79, 75]), (303, [83, 101, 101, 32, 79, 116, 104, 101, 114]), (400, [66, 97, 100, 32, 82, 101, 113, 117, 101, 115, 116]),
   (401, [85, 110, 97, 117, 116, 104, 111, 114, 105, 122, 101, 100]), (403, [70, 111, 114, 98, 105, 100, 100, 101, 110]), (404, [78, 111, 116, 32, 70, 111, 117, 110, 100]),
   (405, [77, 101, 116, 104, 111, 100, 32, 78, 111, 116, 32, 65, 108, 108, 111, 119, 101, 100]), (409, [67, 111, 110, 102, 108, 105, 99, 116]),
   (413, [67, 111, 110, 116, 101, 110, 116, 32, 84, 111, 111, 32, 76, 97, 114, 103, 101]), (429, [84, 111, 111, 32, 77, 97, 110, 121, 32, 82, 101, 113, 117, 101, 115, 116, 115]),
   (431, [82, 101, 113, 117, 101, 115, 116, 32, 72, 101, 97, 100, 101, 114, 32, 70, 105, 101, 108, 100, 115, 32, 84, 111, 111, 32, 76, 97, 114, 103, 101]),
   (503, [83, 101, 114, 118, 105, 99, 101, 32, 85, 110, 97, 118, 97, 105, 108, 97, 98, 108, 101])]
def reasonL (s : Int) : List UInt8 := match reasonsT.find? (fun x => x.1 == s) with | some x => x.2 | none => []
theorem reason_mem {s : Int} (h : reasonL s ≠ []) : s ∈ reasonsT.map (·.1) := by
  unfold reasonL at h
  cases hf : reasonsT.find? (fun x => x.1 == s) with
  | none => rw [hf] at h; exact absurd rfl h
  | some x =>
    have h1 := List.find?_some hf
    have h2 := List.mem_of_find?_eq_some hf
    have : x.1 = s := by simpa using h1
    exact List.mem_map.2 ⟨x, h2, this⟩
theorem reason_each {p : Int → Prop} (h : ∀ s ∈ reasonsT.map (·.1), p s) {s : Int} (hs : reasonL s ≠ []) : p s := h s (reason_mem hs)
structure RespL where
  status : Int
  fs : List PairL
  body : List UInt8
def RespZ : RespL := ⟨0, [], []⟩
/-- the first line -/
def firstR (s : Int) : List UInt8 := verL ++ [32] ++ digL s.toNat ++ [32] ++ reasonL s
def lengLine (n : Nat) : List UInt8 := lengL ++ [58, 32] ++ digL n
def headR (r : RespL) : List (List UInt8) := firstR r.status :: (r.fs.map lineP ++ [lengLine r.body.length])
def textR (r : RespL) : List UInt8 := linesJ (headR r) ++ crlf ++ r.body
/-- the first field that may not be printed -/
def badF (fs : List PairL) : Option PairL := fs.find? fun p => decide ((printF p).2 ≠ 0)
def printR (r : RespL) : List UInt8 × Nat :=
  if reasonL r.status = [] then ([], 1)
  else if 4000 < r.body.length ∨ 40 < r.fs.length then ([], 3)
  else match badF r.fs with
    | some p => ([], (printF p).2)
    | none => (textR r, 0)
/-- what is parsed, of a candidate -/
def parseC (c : Option RespL) (b : List UInt8) : RespL × Nat :=
  match c with
  | some r => if (printR r).2 = 0 ∧ (printR r).1 = b then (r, 0) else (RespZ, 10)
  | none => (RespZ, 10)
theorem badF_none {fs : List PairL} (h : badF fs = none) : ∀ p ∈ fs, (printF p).2 = 0 := fun p hp => by
  have := List.find?_eq_none.1 h p hp
  simpa using this
theorem badF_some {fs : List PairL} {p : PairL} (h : badF fs = some p) : p ∈ fs ∧ (printF p).2 ≠ 0 := by
  have h1 := List.find?_some h
  exact ⟨List.mem_of_find?_eq_some h, by simpa using h1⟩
theorem printF_code (p : PairL) : (printF p).2 = 0 ∨ (printF p).2 = 3 ∨ (printF p).2 = 12 := by
  unfold printF
  split
  · split <;> simp
  · simp
theorem printR_ok {r : RespL} (h : (printR r).2 = 0) : reasonL r.status ≠ [] ∧ r.body.length ≤ 4000 ∧ r.fs.length ≤ 40 ∧ badF r.fs = none ∧ (printR r).1 = textR r := by
  unfold printR at h ⊢
  by_cases h1 : reasonL r.status = []
  · rw [if_pos h1] at h; simp at h
  · rw [if_neg h1] at h ⊢
    by_cases h2 : 4000 < r.body.length ∨ 40 < r.fs.length
    · rw [if_pos h2] at h; simp at h
    · rw [if_neg h2] at h ⊢
      cases hb : badF r.fs with
      | some p => rw [hb] at h; exact absurd h (badF_some hb).2
      | none => exact ⟨h1, by omega, by omega, rfl, rfl⟩
theorem printR_zero {r : RespL} (h : (printR r).2 ≠ 0) : (printR r).1 = [] := by
  unfold printR at h ⊢
  by_cases h1 : reasonL r.status = []
  · rw [if_pos h1]
  · rw [if_neg h1] at h ⊢
    by_cases h2 : 4000 < r.body.length ∨ 40 < r.fs.length
    · rw [if_pos h2]
    · rw [if_neg h2] at h ⊢
      cases hb : badF r.fs with
      | some p => rfl
      | none => rw [hb] at h; exact absurd rfl h
/-- a line of a field tells the field -/
theorem field_line {p : PairL} (h : (printF p).2 = 0) : fieldL (lineP p) = (p, 0) := by
  obtain ⟨e, hok, hlen⟩ := lineP_ok h
  rw [e]
  obtain ⟨n, v⟩ := p
  have hok' := hok
  unfold okP at hok
  rw [Bool.and_eq_true] at hok
  obtain ⟨ht, hv⟩ := hok
  have hv' := hv
  have hcol : ∀ c ∈ n, c ≠ 58 := fun c hc e => by
    unfold tokenL at ht
    rw [Bool.and_eq_true] at ht
    have := List.all_eq_true.1 ht.1 c hc
    rw [e] at this
    exact absurd this (by decide +kernel)
  have e2 : lineL (n, v) = n ++ 58 :: (32 :: v) := by simp [lineL]
  have hrest : restL (n ++ 58 :: (32 :: v)) = v := by
    rw [rest_app n _ hcol]
    unfold valueL at hv
    rw [Bool.and_eq_true, decide_eq_true_eq] at hv
    rcases (trim_fix v).1 hv.2 with rfl | he
    · exact trim_all [32] (by intro c hc; simp at hc; subst hc; rfl)
    · have := trim_mid [32] v [] (by intro c hc; simp at hc; subst hc; rfl) (by simp) he
      simpa using this
  have hname : nameL (n ++ 58 :: (32 :: v)) = n := name_app n _ hcol
  rw [e2] at hlen ⊢
  unfold fieldL
  rw [if_neg (by omega), if_pos (by simp), hname, hrest, hok']
  rfl
theorem first_fine {s : Int} (h : reasonL s ≠ []) : firstR s ≠ [] ∧ (13 : UInt8) ∉ firstR s ∧ (firstR s).length ≤ 60 ∧ 14 ≤ (firstR s).length := by
  refine reason_each (p := fun s => firstR s ≠ [] ∧ (13 : UInt8) ∉ firstR s ∧ (firstR s).length ≤ 60 ∧ 14 ≤ (firstR s).length) ?_ h
  have : ∀ s ∈ reasonsT.map (·.1), digL s.toNat = digL s.toNat := fun _ _ => rfl
  intro s hs
  simp only [reasonsT, List.map_cons, List.map_nil, List.mem_cons, List.not_mem_nil, or_false] at hs
  rcases hs with rfl | rfl | rfl | rfl | rfl | rfl | rfl | rfl | rfl | rfl | rfl | rfl <;>
    exact ⟨by decide +kernel, by decide +kernel, by decide +kernel, by decide +kernel⟩
theorem leng_fine (n : Nat) : lengLine n ≠ [] ∧ (13 : UInt8) ∉ lengLine n := by
  refine ⟨by simp [lengLine, lengL], ?_⟩
  unfold lengLine
  intro hm
  rcases List.mem_append.1 hm with hm | hm
  · exact absurd hm (by decide +kernel)
  · exact (dig_not (digL_facts n).1 13 hm).1 rfl
theorem head_fine {r : RespL} (h : (printR r).2 = 0) : ∀ x ∈ headR r, x ≠ [] ∧ (13 : UInt8) ∉ x := by
  obtain ⟨h1, h2, h3, h4, h5⟩ := printR_ok h
  intro x hx
  rcases List.mem_cons.1 hx with rfl | hx
  · exact ⟨(first_fine h1).1, (first_fine h1).2.1⟩
  · rcases List.mem_append.1 hx with hx | hx
    · obtain ⟨p, hp, rfl⟩ := List.mem_map.1 hx
      exact lineP_line (badF_none h4 p hp)
    · rw [List.mem_singleton] at hx
      rw [hx]
      exact leng_fine _
theorem text_lines {r : RespL} (h : (printR r).2 = 0) : linesT (textR r) = (headR r, (textR r).length - r.body.length, true) := by
  unfold linesT textR
  rw [lines_join _ _ (head_fine h)]
theorem lengLine_len (n : Nat) (h : n ≤ 4000) : (lengLine n).length ≤ 25 := by
  have := (digL_nine n).2 (by omega)
  simp [lengLine, lengL]; omega
theorem linesJ_len (ls : List (List UInt8)) (m : Nat) (h : ∀ x ∈ ls, x.length ≤ m) : (linesJ ls).length ≤ ls.length * (m + 2) := by
  induction ls with
  | nil => simp [linesJ]
  | cons x l ih =>
    rw [linesJ_cons]
    have h1 := h x (by simp)
    have h2 := ih fun y hy => h y (by simp [hy])
    simp only [List.length_append, List.length_cons, crlf, List.length_nil]
    rw [Nat.succ_mul]
    omega
theorem linesP_most {fs : List PairL} (h : ∀ p ∈ fs, (printF p).2 = 0) : (linesJ (fs.map lineP)).length ≤ fs.length * 2002 := by
  have := linesJ_len (fs.map lineP) 2000 fun x hx => by
    obtain ⟨p, hp, rfl⟩ := List.mem_map.1 hx
    rw [(lineP_ok (h p hp)).1]
    exact (lineP_ok (h p hp)).2.2
  simpa using this
theorem text_len {r : RespL} (h : (printR r).2 = 0) : (textR r).length ≤ 90000 := by
  obtain ⟨h1, h2, h3, h4, h5⟩ := printR_ok h
  have a1 := linesP_most (badF_none h4)
  have a2 := (first_fine h1).2.2.1
  have a3 := lengLine_len r.body.length h2
  have : r.fs.length * 2002 ≤ 40 * 2002 := Nat.mul_le_mul_right _ h3
  unfold textR headR
  have e0 : linesJ ([] : List (List UInt8)) = [] := rfl
  rw [linesJ_cons, linesJ_app2, linesJ_cons, e0]
  generalize linesJ (r.fs.map lineP) = M at *
  simp only [List.length_append, crlf, List.length_cons, List.length_nil]
  omega
/-- the lines between the first and the last -/
def midL (ls : List (List UInt8)) : List (List UInt8) := (ls.drop 1).take (ls.length - 2)
theorem mid_head (r : RespL) : midL (headR r) = r.fs.map lineP := by
  unfold midL headR
  simp
/-- the candidate, where a first line tells a status -/
def candL (st : List UInt8 → Option Int) (bs : List UInt8) : Option RespL :=
  if (linesT bs).2.2 = true ∧ 2 ≤ (linesT bs).1.length then
    match st ((linesT bs).1.getD 0 []) with
    | none => none
    | some s => if ∀ x ∈ midL (linesT bs).1, (fieldL x).2 = 0 then some ⟨s, (midL (linesT bs).1).map fun x => (fieldL x).1, bs.drop (linesT bs).2.1⟩ else none
  else none
theorem cand_back (st : List UInt8 → Option Int) (hst : ∀ s, reasonL s ≠ [] → st (firstR s) = some s) {r : RespL} (h : (printR r).2 = 0) : candL st (textR r) = some r := by
  obtain ⟨h1, h2, h3, h4, h5⟩ := printR_ok h
  have hb := badF_none h4
  unfold candL
  rw [text_lines h]
  have hl : 2 ≤ (headR r).length := by simp [headR]
  have hs : st ((headR r).getD 0 []) = some r.status := hst _ h1
  simp only [hl, and_self, if_true, hs, mid_head]
  have hall : ∀ x ∈ r.fs.map lineP, (fieldL x).2 = 0 := fun x hx => by
    obtain ⟨p, hp, rfl⟩ := List.mem_map.1 hx
    rw [field_line (hb p hp)]
  rw [if_pos hall, List.map_map]
  have e1 : r.fs.map ((fun x => (fieldL x).1) ∘ lineP) = r.fs := by
    have : ∀ x ∈ r.fs, ((fun x => (fieldL x).1) ∘ lineP) x = x := fun x hx => by
      show (fieldL (lineP x)).1 = x
      rw [field_line (hb x hx)]
    rw [List.map_congr_left this, List.map_id']
  have e2 : (textR r).drop ((textR r).length - r.body.length) = r.body := by
    unfold textR
    rw [show (linesJ (headR r) ++ crlf ++ r.body).length - r.body.length = (linesJ (headR r) ++ crlf).length by simp; omega, List.drop_left]
  rw [e1, e2]
theorem parseC_ok {c : Option RespL} {b : List UInt8} {r : RespL} (h : parseC c b = (r, 0)) : c = some r ∧ (printR r).2 = 0 ∧ (printR r).1 = b := by
  unfold parseC at h
  cases c with
  | none => simp at h
  | some q =>
    simp only at h
    by_cases hq : (printR q).2 = 0 ∧ (printR q).1 = b
    · rw [if_pos hq] at h
      obtain rfl : q = r := by simpa using h
      exact ⟨rfl, hq.1, hq.2⟩
    · rw [if_neg hq] at h; simp at h
theorem parseC_two (c : Option RespL) (b : List UInt8) : (∃ r, parseC c b = (r, 0)) ∨ parseC c b = (RespZ, 10) := by
  unfold parseC
  cases c with
  | none => exact Or.inr rfl
  | some q =>
    simp only
    by_cases hq : (printR q).2 = 0 ∧ (printR q).1 = b
    · rw [if_pos hq]; exact Or.inl ⟨q, rfl⟩
    · rw [if_neg hq]; exact Or.inr rfl
theorem parseC_back (st : List UInt8 → Option Int) (hst : ∀ s, reasonL s ≠ [] → st (firstR s) = some s) {r : RespL} {b : List UInt8} (h : (printR r).2 = 0) (hb : (printR r).1 = b) : parseC (candL st b) b = (r, 0) := by
  have e := (printR_ok h).2.2.2.2
  have : candL st b = some r := by rw [← hb, e]; exact cand_back st hst h
  rw [this]
  unfold parseC
  simp only
  rw [if_pos ⟨h, hb⟩]
/-- two ways to read the status of a first line, both right where a response was printed: the same answer -/
theorem parse_same (st su : List UInt8 → Option Int) (hst : ∀ s, reasonL s ≠ [] → st (firstR s) = some s) (hsu : ∀ s, reasonL s ≠ [] → su (firstR s) = some s) (b : List UInt8) : parseC (candL st b) b = parseC (candL su b) b := by
  rcases parseC_two (candL st b) b with ⟨r, h⟩ | h
  · obtain ⟨_, h1, h2⟩ := parseC_ok h
    rw [h, parseC_back su hsu h1 h2]
  · rcases parseC_two (candL su b) b with ⟨r, h'⟩ | h'
    · obtain ⟨_, h1, h2⟩ := parseC_ok h'
      rw [h', parseC_back st hst h1 h2]
    · rw [h, h']
/-- how the program reads a first line: its second word -/
def cutB (l : List UInt8) : List UInt8 × List UInt8 := match cutS [32] l with | some x => x | none => (l, [])
def statP (l : List UInt8) : Option Int := if decB (cutB (cutB l).2).1 999 = true then some (decV (cutB (cutB l).2).1 999) else none
/-- how the reference reads it: three bytes -/
def statR (l : List UInt8) : Option Int := if 12 ≤ l.length then some (decV ((l.drop 9).take 3) 999) else none
theorem statP_ok : ∀ s, reasonL s ≠ [] → statP (firstR s) = some s := by
  intro s h
  refine reason_each (p := fun s => statP (firstR s) = some s) ?_ h
  intro s hs
  simp only [reasonsT, List.map_cons, List.map_nil, List.mem_cons, List.not_mem_nil, or_false] at hs
  rcases hs with rfl | rfl | rfl | rfl | rfl | rfl | rfl | rfl | rfl | rfl | rfl | rfl <;> decide +kernel
theorem statR_ok : ∀ s, reasonL s ≠ [] → statR (firstR s) = some s := by
  intro s h
  refine reason_each (p := fun s => statR (firstR s) = some s) ?_ h
  intro s hs
  simp only [reasonsT, List.map_cons, List.map_nil, List.mem_cons, List.not_mem_nil, or_false] at hs
  rcases hs with rfl | rfl | rfl | rfl | rfl | rfl | rfl | rfl | rfl | rfl | rfl | rfl <;> decide +kernel
def parseR (b : List UInt8) : RespL × Nat := parseC (candL statP b) b
theorem parseR_ref (b : List UInt8) : parseC (candL statR b) b = parseR b := parse_same statR statP statR_ok statP_ok b
theorem parseR_back {r : RespL} (h : (printR r).2 = 0) : parseR (printR r).1 = (r, 0) := parseC_back statP statP_ok h rfl
theorem parseR_ok {b : List UInt8} (h : (parseR b).2 = 0) : (printR (parseR b).1).2 = 0 ∧ (printR (parseR b).1).1 = b := by
  obtain ⟨r, e⟩ : ∃ r, parseR b = (r, 0) := ⟨(parseR b).1, by rw [← h]⟩
  obtain ⟨_, h1, h2⟩ := parseC_ok e
  rw [e]
  exact ⟨h1, h2⟩
theorem parseR_zero {b : List UInt8} (h : (parseR b).2 ≠ 0) : parseR b = (RespZ, 10) := by
  rcases parseC_two (candL statP b) b with ⟨r, e⟩ | e
  · exact absurd (show (parseR b).2 = 0 by unfold parseR; rw [e]) h
  · exact e
end Go.Proofs.YtolikoediafkkaaDoor
