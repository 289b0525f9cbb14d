/- Requests as texts: what Print writes, and when it may. No program. -/
import Derived.Test.YtbojigimldfghaaDoorHttpParse
import Derived.Test.YtbojigimldfghaaDoorHttpSame
namespace Go.Proofs.YtbojigimldfghaaDoor
set_option linter.unusedVariables false
set_option linter.unusedSimpArgs false

theorem tok_no13 {l : List UInt8} (h : tokenL l = true) : (13 : UInt8) ∉ l := fun hm => by
  unfold tokenL at h
  rw [Bool.and_eq_true] at h
  have := List.all_eq_true.1 h.1 13 hm
  exact absurd this (by decide +kernel)
theorem val_no13 {l : List UInt8} (h : valueL l = true) : (13 : UInt8) ∉ l := fun hm => by
  unfold valueL at h
  rw [Bool.and_eq_true] at h
  have := List.all_eq_true.1 h.1 13 hm
  exact absurd this (by decide +kernel)
theorem path_no13 {l : List UInt8} (h : pathL l = true) : (13 : UInt8) ∉ l := fun hm => by
  unfold pathL at h
  rw [Bool.and_eq_true] at h
  have := List.all_eq_true.1 h.2 13 hm
  exact absurd this (by decide +kernel)
/-- a field's line, or nothing -/
def lineP (p : PairL) : List UInt8 := (printF p).1
theorem lineP_bad {p : PairL} (h : (printF p).2 ≠ 0) : lineP p = [] := by
  unfold lineP
  unfold printF at h ⊢
  split
  · rename_i h1
    rw [if_pos h1] at h
    split
    · rfl
    · rename_i h2
      rw [if_neg h2] at h
      exact absurd rfl h
  · rfl
theorem lineP_ok {p : PairL} (h : (printF p).2 = 0) : lineP p = lineL p ∧ okP p = true ∧ (lineL p).length ≤ 2000 := by
  unfold lineP
  unfold printF at h ⊢
  split
  · rename_i h1
    rw [if_pos h1] at h
    split
    · rename_i h2
      rw [if_pos h2] at h; cases h
    · exact ⟨rfl, h1, by omega⟩
  · rename_i h1
    rw [if_neg h1] at h; cases h
theorem lineP_line {p : PairL} (h : (printF p).2 = 0) : lineP p ≠ [] ∧ (13 : UInt8) ∉ lineP p := by
  obtain ⟨e, h1, _⟩ := lineP_ok h
  rw [e]
  unfold okP at h1
  rw [Bool.and_eq_true] at h1
  refine ⟨by simp [lineL], fun hm => ?_⟩
  unfold lineL at hm
  rw [List.mem_append, List.mem_append] at hm
  rcases hm with (hm | hm) | hm
  · exact tok_no13 h1.1 hm
  · exact absurd hm (by decide)
  · exact val_no13 h1.2 hm
theorem lineP_len (p : PairL) : (lineP p).length ≤ p.1.length + p.2.length + 2 := by
  by_cases h : (printF p).2 = 0
  · rw [(lineP_ok h).1]; simp [lineL]; omega
  · rw [lineP_bad h]; simp
/-- a request's first line -/
def firstT (m p : List UInt8) : List UInt8 := m ++ [32] ++ p ++ [32] ++ verL
def textQ (r : ReqL) : List UInt8 := firstT r.m r.p ++ crlf ++ linesJ (r.fs.map lineP) ++ crlf ++ r.body
/-- may it be printed? -/
def mayQ (r : ReqL) : Bool := decide ((reqL (textQ r)).2 = 0) && sameQ (reqL (textQ r)).1 r
theorem mayQ_iff (r : ReqL) : mayQ r = true ↔ reqL (textQ r) = (r, 0) := by
  unfold mayQ
  rw [Bool.and_eq_true, decide_eq_true_eq, sameQ_iff]
  constructor
  · rintro ⟨h1, h2⟩
    exact Prod.ext h2 h1
  · intro h
    rw [h]; exact ⟨rfl, rfl⟩
theorem linesJ_cons (x : List UInt8) (ls : List (List UInt8)) : linesJ (x :: ls) = x ++ crlf ++ linesJ ls := by simp [linesJ]
theorem linesJ_app2 (a b : List (List UInt8)) : linesJ (a ++ b) = linesJ a ++ linesJ b := by simp [linesJ]
/-- a field that may not be is found out: the text says another thing -/
theorem mayQ_bad (r : ReqL) (h : ∃ p ∈ r.fs, (printF p).2 ≠ 0) : mayQ r = false := by
  cases hm : mayQ r with
  | false => rfl
  | true =>
    exfalso
    have hq := (mayQ_iff r).1 hm
    -- what the text's head is
    cases hL : linesL (textQ r) with
    | none => rw [req_none hL] at hq; exact absurd (show (10 : Nat) = 0 from congrArg Prod.snd hq) (by decide)
    | some z =>
      obtain ⟨ls, rest⟩ := z
      rw [req_some hL] at hq
      cases ls with
      | nil => exact absurd (show (10 : Nat) = 0 from congrArg Prod.snd hq) (by decide)
      | cons x ls =>
        have h1 : (firstL x).2 = 0 := by
          by_cases h1 : (firstL x).2 = 0
          · exact h1
          · rw [after_first h1] at hq
            exact absurd (congrArg Prod.snd hq) h1
        have h2 : (fieldsL ls).2 = 0 := by
          by_cases h2 : (fieldsL ls).2 = 0
          · exact h2
          · rw [after_fields h1 h2] at hq
            exact absurd (congrArg Prod.snd hq) h2
        rw [after_body h1 h2] at hq
        obtain ⟨_, _, _, ht, hp⟩ := firstL_ok h1
        obtain ⟨_, _, hfs⟩ := fieldsL_small h2
        have hb : ¬ bodyL (fieldsL ls).1 rest.length ≠ 0 := fun hb => by
          rw [if_pos hb] at hq
          exact hb (congrArg Prod.snd hq)
        rw [if_neg hb] at hq
        have hr := congrArg Prod.fst hq
        have em : (firstL x).1.1 = r.m := congrArg ReqL.m hr
        have ep : (firstL x).1.2 = r.p := congrArg ReqL.p hr
        have ef : (fieldsL ls).1 = r.fs := congrArg ReqL.fs hr
        rw [em] at ht
        rw [ep] at hp
        -- the lines that Print wrote
        obtain ⟨p, hpm, hpb⟩ := h
        have hsplit : ∃ pre q post, r.fs = pre ++ q :: post ∧ (∀ y ∈ pre, (printF y).2 = 0) ∧ (printF q).2 ≠ 0 := by
          have : ∀ fs : List PairL, (∃ p ∈ fs, (printF p).2 ≠ 0) → ∃ pre q post, fs = pre ++ q :: post ∧ (∀ y ∈ pre, (printF y).2 = 0) ∧ (printF q).2 ≠ 0 := by
            intro fs
            induction fs with
            | nil => rintro ⟨p, hp, _⟩; cases hp
            | cons a fs ih =>
              rintro ⟨p, hp, hb⟩
              by_cases ha : (printF a).2 = 0
              · rcases List.mem_cons.1 hp with rfl | hp
                · exact absurd ha hb
                · obtain ⟨pre, q, post, e, h1, h2⟩ := ih ⟨p, hp, hb⟩
                  exact ⟨a :: pre, q, post, by rw [e]; rfl, fun y hy => by
                    rcases List.mem_cons.1 hy with rfl | hy
                    · exact ha
                    · exact h1 y hy, h2⟩
              · exact ⟨[], a, fs, rfl, by simp, ha⟩
          exact this r.fs ⟨p, hpm, hpb⟩
        obtain ⟨pre, q, post, efs, hpre, hq2⟩ := hsplit
        have hline : ∀ y ∈ firstT r.m r.p :: pre.map lineP, y ≠ [] ∧ (13 : UInt8) ∉ y := by
          intro y hy
          rcases List.mem_cons.1 hy with rfl | hy
          · refine ⟨by simp [firstT], fun hm13 => ?_⟩
            unfold firstT at hm13
            simp only [List.mem_append] at hm13
            rcases hm13 with (((hm13 | hm13) | hm13) | hm13) | hm13
            · exact tok_no13 ht hm13
            · exact absurd hm13 (by decide)
            · exact path_no13 hp hm13
            · exact absurd hm13 (by decide)
            · exact absurd hm13 (by decide)
          · obtain ⟨p', hp', rfl⟩ := List.mem_map.1 hy
            exact lineP_line (hpre p' hp')
        have et : textQ r = linesJ (firstT r.m r.p :: pre.map lineP) ++ crlf ++ (linesJ (post.map lineP) ++ crlf ++ r.body) := by
          unfold textQ
          rw [efs, List.map_append, List.map_cons, linesJ_app2, linesJ_cons, linesJ_cons, lineP_bad hq2]
          simp
        rw [et, lines_join _ _ hline] at hL
        have e2 := (Prod.ext_iff.1 (Option.some.inj hL)).1
        simp only [List.cons.injEq] at e2
        have hlen : r.fs.length = pre.length := by
          rw [← ef, hfs, List.length_map, ← e2.2, List.length_map]
        rw [efs] at hlen
        simp at hlen
/-! ### how much there is -/
def bulkQ (fs : List PairL) : Nat := (fs.map fun x => 1 + x.1.length + x.2.length).sum
theorem bulkQ_take (ps : List PairL) (j : Nat) (x : PairL) (h : ps[j]? = some x) : bulkQ (ps.take (j + 1)) = bulkQ (ps.take j) + (1 + x.1.length + x.2.length) := by
  unfold bulkQ
  obtain ⟨h1, h2⟩ := List.getElem?_eq_some_iff.1 h
  rw [List.take_succ_eq_append_getElem h1, List.map_append, List.sum_append, h2]
  simp
theorem bulkQ_le (ps : List PairL) (j : Nat) : bulkQ (ps.take j) ≤ bulkQ ps := by
  have := congrArg bulkQ (List.take_append_drop j ps)
  unfold bulkQ at this ⊢
  rw [List.map_append, List.sum_append] at this
  omega
theorem bulkQ_len (ps : List PairL) : ps.length ≤ bulkQ ps := by
  induction ps with
  | nil => simp
  | cons a r ih =>
    have e : bulkQ (a :: r) = (1 + a.1.length + a.2.length) + bulkQ r := by simp [bulkQ]
    rw [e, List.length_cons]; omega
theorem bulkQ_each (ps : List PairL) (x : PairL) (h : x ∈ ps) : x.1.length + x.2.length ≤ bulkQ ps := by
  induction ps with
  | nil => cases h
  | cons a r ih =>
    have e : bulkQ (a :: r) = (1 + a.1.length + a.2.length) + bulkQ r := by simp [bulkQ]
    rcases List.mem_cons.1 h with rfl | h
    · omega
    · have := ih h; omega
theorem linesP_len (ps : List PairL) : (linesJ (ps.map lineP)).length ≤ 4 * bulkQ ps := by
  induction ps with
  | nil => simp [linesJ]
  | cons a r ih =>
    have e : bulkQ (a :: r) = (1 + a.1.length + a.2.length) + bulkQ r := by simp [bulkQ]
    have h1 := lineP_len a
    rw [List.map_cons, linesJ_cons, e]
    simp only [List.length_append, show crlf.length = 2 from rfl]
    omega
end Go.Proofs.YtbojigimldfghaaDoor
