/- What RespBack asks, of lists. -/
import Derived.Test.YtolikoediafkkaaDoorRespGen
namespace Go.Proofs.YtolikoediafkkaaDoor
set_option linter.unusedVariables false
set_option linter.unusedSimpArgs false

/-- bytes that stay in a value as they are -/
def fineV (c : UInt8) : Bool := !blankB c && valB c
theorem esc_fineV (l : List UInt8) : (escapeL l).all fineV = true := by
  have H : ∀ k : Fin 256, (escF (UInt8.ofNat k.val)).all fineV = true := by decide +kernel
  unfold escapeL
  rw [List.all_eq_true]
  intro c hc
  obtain ⟨d, _, hd⟩ := List.mem_flatMap.1 hc
  have := H ⟨d.toNat, d.toNat_lt⟩
  simp only [UInt8.ofNat_toNat] at this
  exact List.all_eq_true.1 this c hd
theorem value_fine {l : List UInt8} (h : l.all fineV = true) : valueL l = true := by
  have hh : ∀ c ∈ l, blankB c = false ∧ valB c = true := fun c hc => by
    have := List.all_eq_true.1 h c hc
    unfold fineV at this
    simpa using this
  unfold valueL
  rw [Bool.and_eq_true, decide_eq_true_eq]
  refine ⟨List.all_eq_true.2 fun c hc => (hh c hc).2, (trim_fix l).2 ?_⟩
  cases l with
  | nil => exact Or.inl rfl
  | cons a r => exact Or.inr ⟨⟨a, rfl, (hh a (by simp)).1⟩, (a :: r).getLast (by simp), List.getLast?_eq_some_getLast (by simp), (hh _ (List.getLast_mem (by simp))).1⟩
theorem letC_tok (c : UInt8) : tokenL [88, letC c] = true := by
  have H : ∀ k : Fin 256, tokenL [88, letC (UInt8.ofNat k.val)] = true := by decide +kernel
  have := H ⟨c.toNat, c.toNat_lt⟩
  simpa only [UInt8.ofNat_toNat] using this
theorem fieldC_ok (cs : List UInt8) (j : Nat) : (printF (fieldC cs j)).2 = 0 := by
  have h1 : okP (fieldC cs j) = true := by
    unfold okP fieldC
    rw [Bool.and_eq_true]
    exact ⟨letC_tok _, value_fine (esc_fineV _)⟩
  have h2 := escapeL_len (lineOf (cs.drop j))
  have h3 := lineOf_len (cs.drop j)
  unfold printF
  rw [if_pos h1, if_neg (by unfold lineL fieldC; simp; omega)]
theorem fieldC_small (cs : List UInt8) (j : Nat) : ∀ p ∈ fieldsC cs j, p.1.length ≤ 400000 ∧ p.2.length ≤ 400000 := by
  intro p hp
  unfold fieldsC at hp
  obtain ⟨i, _, rfl⟩ := List.mem_map.1 hp
  have h2 := escapeL_len (lineOf (cs.drop i))
  have h3 := lineOf_len (cs.drop i)
  unfold fieldC
  exact ⟨by simp, by simp only; omega⟩
theorem fieldsC_fine (cs : List UInt8) (j : Nat) : badF (fieldsC cs j) = none := badF_all fun y hy => by
  unfold fieldsC at hy
  obtain ⟨i, _, rfl⟩ := List.mem_map.1 hy
  exact fieldC_ok cs i
theorem reason_all : ∀ x ∈ reasonsT, reasonL x.1 ≠ [] := by decide +kernel
theorem stat_low {k : Nat} (h : ¬ 230 < k) : reasonL (statC k) ≠ [] := by
  unfold statC
  rw [if_neg h]
  have hk : k % 12 < reasonsT.length := by show k % 12 < 12; omega
  have e : reasonsT.getD (k % 12) (0, []) = reasonsT[k % 12] := by simp [List.getD, hk]
  rw [e]
  exact reason_all _ (List.getElem_mem hk)
theorem back_ok (cs body : List UInt8) (k m : Nat) (h : ¬ 230 < k) (hm : m ≤ 6) (hb : body.length ≤ 4000) : printR ⟨statC k, fieldsC cs m, body⟩ = (textR ⟨statC k, fieldsC cs m, body⟩, 0) := by
  have hl := fieldsC_len cs m
  unfold printR
  rw [if_neg (show ¬ reasonL (RespL.mk (statC k) (fieldsC cs m) body).status = [] from stat_low h), if_neg (by simp only; omega)]
  simp only
  rw [fieldsC_fine]
theorem leng_inj {n m : Nat} (h : lengLine n = lengLine m) : n = m := by
  unfold lengLine at h
  have := List.append_cancel_left h
  have h1 := (digL_facts n).2.1
  have h2 := (digL_facts m).2.1
  rw [← h1, ← h2, this]
/-- no response's bytes go on behind another's -/
theorem text_only {r r' : RespL} (h : (printR r).2 = 0) (h' : (printR r').2 = 0) {q : List UInt8} (e : textR r = textR r' ++ q) : q = [] := by
  have e1 : linesL (textR r) = some (headR r, r.body) := by unfold textR; exact lines_join _ _ (head_fine h)
  have e2 : linesL (textR r) = some (headR r', r'.body ++ q) := by
    rw [e]
    unfold textR
    rw [List.append_assoc (linesJ (headR r') ++ crlf)]
    exact lines_join _ _ (head_fine h')
  rw [e1] at e2
  simp only [Option.some.injEq, Prod.mk.injEq] at e2
  obtain ⟨a1, a2⟩ := e2
  have a3 : (headR r).getLast? = (headR r').getLast? := by rw [a1]
  have g : ∀ r : RespL, (headR r).getLast? = some (lengLine r.body.length) := fun r => by
    unfold headR
    rw [show firstR r.status :: (r.fs.map lineP ++ [lengLine r.body.length]) = (firstR r.status :: r.fs.map lineP) ++ [lengLine r.body.length] from rfl, List.getLast?_concat]
  rw [g, g] at a3
  have a4 := leng_inj (Option.some.inj a3)
  have a5 := congrArg List.length a2
  rw [List.length_append] at a5
  exact List.eq_nil_of_length_eq_zero (by omega)
theorem parse_of_print {b : List UInt8} (h : (parseR b).2 = 0) : ∃ r, (printR r).2 = 0 ∧ textR r = b := by
  obtain ⟨h1, h2⟩ := parseR_ok h
  exact ⟨_, h1, by rw [← (printR_ok h1).2.2.2.2]; exact h2⟩
theorem parse_more {r : RespL} (h : (printR r).2 = 0) (x : UInt8) : parseR (textR r ++ [x]) = (RespZ, 10) := by
  by_cases hp : (parseR (textR r ++ [x])).2 = 0
  · obtain ⟨r', h1, h2⟩ := parse_of_print hp
    have := text_only h1 h h2
    cases this
  · exact parseR_zero hp
theorem parse_less {r : RespL} (h : (printR r).2 = 0) {n : Nat} (hn : n < (textR r).length) : parseR ((textR r).take n) = (RespZ, 10) := by
  by_cases hp : (parseR ((textR r).take n)).2 = 0
  · obtain ⟨r', h1, h2⟩ := parse_of_print hp
    have e : textR r = textR r' ++ (textR r).drop n := by rw [h2, List.take_append_drop]
    have := text_only h h1 e
    have := congrArg List.length this
    rw [List.length_drop] at this
    simp at this
    omega
  · exact parseR_zero hp
end Go.Proofs.YtolikoediafkkaaDoor
