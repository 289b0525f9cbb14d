/- Facts of texts: names, passwords and notes by their bytes; what is escaped. No program's step is walked here. -/
import Derived.Test.YtllimlkifggakaaTextRunes
namespace Go.Proofs.Ytllimlkifggakaa
set_option linter.unusedVariables false
set_option linter.unusedSimpArgs false

theorem ascii_dec (a : UInt8) (r : List UInt8) (h : a.toNat < 128) : dec (a :: r) = (a.toNat, 1) := by
  have h0 : at4 (a :: r) 0 = a.toNat := rfl
  rcases told (a :: r) with ⟨_, e⟩ | ⟨_, q, _, e⟩ | ⟨_, q, _, _, _, _, e⟩ | ⟨_, q, _, _, _, _, _, e⟩ | ⟨q, _, _, _, e⟩
  · rw [e, h0]
  all_goals omega
theorem ascii_good (a : UInt8) (r : List UInt8) (h : a.toNat < 128) : goodL (a :: r) = true := (good_iff _).2 (.inr h)
theorem high_dec (a : UInt8) (r : List UInt8) (h : 128 ≤ a.toNat) : 128 ≤ (dec (a :: r)).1 := by
  have h0 : at4 (a :: r) 0 = a.toNat := rfl
  rcases told (a :: r) with ⟨_, e⟩ | ⟨_, q, _, e⟩ | ⟨_, q, _, _, _, _, e⟩ | ⟨_, q, _, _, _, _, _, e⟩ | ⟨q, _, _, _, e⟩ <;> rw [e] <;> simp only <;> omega
theorem wd_ascii (a : UInt8) (r : List UInt8) (h : a.toNat < 128) : wd (a :: r) = 1 := by rw [wd, ascii_dec a r h]
theorem each_ascii (may : Nat → Nat → Bool) (k : Nat) (a : UInt8) (r : List UInt8) (h : a.toNat < 128) : eachT may k (a :: r) = (may k a.toNat && eachT may (k + 1) r) := by
  rw [eachT_cons may k (a :: r) (by simp), ascii_good a r h, ascii_dec a r h, wd_ascii a r h]
  simp
theorem each_high (may : Nat → Nat → Bool) (hm : ∀ k r, 128 ≤ r → may k r = false) (k : Nat) (a : UInt8) (r : List UInt8) (h : 128 ≤ a.toNat) : eachT may k (a :: r) = false := by
  rw [eachT_cons may k (a :: r) (by simp), hm k _ (high_dec a r h)]
  simp
def isLow (b : UInt8) : Bool := decide (97 ≤ b.toNat) && decide (b.toNat ≤ 122)
def isNm (b : UInt8) : Bool := isLow b || (decide (48 ≤ b.toNat) && decide (b.toNat ≤ 57)) || decide (b.toNat = 95)
def headLow : List UInt8 → Bool
  | [] => false
  | a :: _ => isLow a
def nameB (l : List UInt8) : Bool := headLow l && l.all isNm && decide (l.length ≤ 20)
theorem mayName_high (k r : Nat) (h : 128 ≤ r) : mayName k r = false := by
  have h1 : ¬ r ≤ 122 := by omega
  have h2 : ¬ r ≤ 57 := by omega
  have h3 : ¬ r = 95 := by omega
  simp [mayName, h1, h2, h3]
theorem mayName_pos (k : Nat) (a : UInt8) : mayName (k + 1) a.toNat = isNm a := by simp [mayName, isNm, isLow, Bool.or_assoc]
theorem mayName_zero (a : UInt8) : mayName 0 a.toNat = isLow a := by simp [mayName, isLow]
theorem isNm_high (a : UInt8) (h : 128 ≤ a.toNat) : isNm a = false := by
  have h1 : ¬ a.toNat ≤ 122 := by omega
  have h2 : ¬ a.toNat ≤ 57 := by omega
  have h3 : ¬ a.toNat = 95 := by omega
  simp [isNm, isLow, h1, h2, h3]
theorem low_nm (a : UInt8) (h : isLow a = true) : isNm a = true := by simp [isNm, h]
theorem each_nm (k : Nat) (l : List UInt8) : eachT mayName (k + 1) l = l.all isNm := by
  induction l generalizing k with
  | nil => rfl
  | cons a r ih =>
    by_cases h : a.toNat < 128
    · rw [each_ascii _ _ _ _ h, mayName_pos, ih, List.all_cons]
    · rw [each_high _ mayName_high _ _ _ (by omega), List.all_cons, isNm_high a (by omega)]; rfl
theorem nameP_eq (l : List UInt8) : nameP l = nameB l := by
  unfold nameP nameB
  cases l with
  | nil => rfl
  | cons a r =>
    have e1 : eachT mayName 0 (a :: r) = (isLow a && r.all isNm) := by
      by_cases h : a.toNat < 128
      · rw [each_ascii _ _ _ _ h, mayName_zero, each_nm]
      · rw [each_high _ mayName_high _ _ _ (by omega)]
        have : isLow a = false := by have := isNm_high a (by omega); simp [isNm] at this; simp [this]
        rw [this]; rfl
    rw [e1, List.all_cons]
    simp only [headLow, List.length_cons]
    cases h : isLow a
    · simp
    · rw [low_nm a h]
      simp [Bool.and_comm]
/-- what is asked of each rune, where those of more bytes may all be, is asked of each byte -/
theorem each_bytes (q : Nat → Bool) (hq : ∀ n, 128 ≤ n → q n = true) (k : Nat) (l : List UInt8) : eachT (fun _ r => q r) k l = (okT l && l.all fun b => q b.toNat) := by
  revert k
  refine chop_ind (p := fun l => ∀ k, eachT (fun _ r => q r) k l = (okT l && l.all fun b => q b.toNat)) (fun k => rfl) (fun l hl ih k => ?_) l
  rw [eachT_cons _ k l hl, okT_cons l hl, ih]
  have hs : (l.all fun b => q b.toNat) = (((l.take (wd l)).all fun b => q b.toNat) && ((l.drop (wd l)).all fun b => q b.toNat)) := by
    rw [← List.all_append, List.take_append_drop]
  rw [hs]
  cases hg : goodL l
  · simp
  · rcases good_bytes l hl hg with ⟨b, hb, h128, hd⟩ | ⟨h2, h128, hall⟩
    · rw [hb, hd]
      simp [Bool.and_left_comm]
    · have : ((l.take (wd l)).all fun b => q b.toNat) = true := List.all_eq_true.2 fun b hb => hq _ (hall b hb).1
      rw [this, hq _ h128]
      simp
def qPass (n : Nat) : Bool := decide (32 ≤ n) && !decide (n = 127)
def qNote (n : Nat) : Bool := qPass n || decide (n = 10)
theorem qPass_high (n : Nat) (h : 128 ≤ n) : qPass n = true := by
  have h1 : 32 ≤ n := by omega
  have h2 : ¬ n = 127 := by omega
  simp [qPass, h1, h2]
theorem qNote_high (n : Nat) (h : 128 ≤ n) : qNote n = true := by simp [qNote, qPass_high n h]
def passB (l : List UInt8) : Bool := decide (1 ≤ l.length) && decide (l.length ≤ 60) && okT l && l.all fun b => qPass b.toNat
def noteB (l : List UInt8) : Bool := decide (l.length ≤ 200) && okT l && l.all fun b => qNote b.toNat
theorem passP_eq (l : List UInt8) : passP l = passB l := by
  have e : eachT mayPass 0 l = (okT l && l.all fun b => qPass b.toNat) := each_bytes qPass qPass_high 0 l
  unfold passP passB
  rw [e]; simp [Bool.and_assoc]
theorem noteP_eq (l : List UInt8) : noteP l = noteB l := by
  have e : eachT mayNote 0 l = (okT l && l.all fun b => qNote b.toNat) := each_bytes qNote qNote_high 0 l
  unfold noteP noteB
  rw [e]; simp [Bool.and_assoc]
theorem ok_ascii (l : List UInt8) (h : ∀ b ∈ l, b.toNat < 128) : okT l = true := by
  induction l with
  | nil => rfl
  | cons a r ih =>
    have ha := h a (by simp)
    rw [okT_cons (a :: r) (by simp), ascii_good a r ha, wd_ascii a r ha]
    exact ih fun b hb => h b (by simp [hb])
theorem cnt_ascii (l : List UInt8) (h : ∀ b ∈ l, b.toNat < 128) : cntT l = l.length := by
  induction l with
  | nil => rfl
  | cons a r ih =>
    have ha := h a (by simp)
    rw [cntT_cons (a :: r) (by simp), wd_ascii a r ha]
    simp [ih fun b hb => h b (by simp [hb])]
theorem ok_mem (l : List UInt8) (h : okT l = true) : ∀ b ∈ l, b.toNat ≤ 244 := by
  revert h
  refine chop_ind (p := fun l => okT l = true → ∀ b ∈ l, b.toNat ≤ 244) (fun _ b hb => by cases hb) (fun l hl ih h b hb => ?_) l
  rw [okT_cons l hl, Bool.and_eq_true] at h
  rw [← List.take_append_drop (wd l) l, List.mem_append] at hb
  rcases hb with hb | hb
  · rcases good_bytes l hl h.1 with ⟨c, hc, h128, _⟩ | ⟨_, _, hall⟩
    · rw [hc] at hb
      simp at hb
      rw [hb]; omega
    · exact (hall b hb).2
  · exact ih h.2 b hb
theorem ok_no255 (s t : List UInt8) : okT (s ++ [255] ++ t) = false := by
  cases h : okT (s ++ [255] ++ t)
  · rfl
  · have := ok_mem _ h 255 (by simp)
    exact absurd this (by decide)
/-- what becomes of a chunk -/
theorem chunk_cases (l : List UInt8) (hl : 1 ≤ l.length) :
    (goodL l = false ∧ escC (l.take (wd l)) = [63] ∧ (l.take (wd l)).length = 1) ∨
    (goodL l = true ∧ ((escC (l.take (wd l)) = l.take (wd l) ∧ okT (l.take (wd l)) = true ∧ cntT (l.take (wd l)) = 1 ∧ ∀ b ∈ l.take (wd l), b.toNat ≠ 60 ∧ b.toNat ≠ 62 ∧ b.toNat ≠ 34 ∧ b.toNat ≠ 39) ∨
      ((l.take (wd l)).length = 1 ∧ 4 ≤ (escC (l.take (wd l))).length ∧ okT (escC (l.take (wd l))) = true ∧ 1 ≤ cntT (escC (l.take (wd l))) ∧ ∀ b ∈ escC (l.take (wd l)), b.toNat ≠ 60 ∧ b.toNat ≠ 62 ∧ b.toNat ≠ 34 ∧ b.toNat ≠ 39))) := by
  have hw := wd_le l hl
  cases hg : goodL l
  · left
    refine ⟨rfl, ?_, ?_⟩
    · unfold escC; rw [good_chunk l hl, hg]; rfl
    · have : wd l = 1 := by rw [wd, (bad_is hg).1]
      rw [this, List.length_take]; omega
  · right
    refine ⟨rfl, ?_⟩
    have hc : escC (l.take (wd l)) = escB (l.take (wd l)) := by unfold escC; rw [good_chunk l hl, hg]; rfl
    rw [hc]
    rcases good_bytes l hl hg with ⟨b, hb, h128, _⟩ | ⟨h2, _, hall⟩
    · rw [hb]
      have one : ∀ c : UInt8, c.toNat ≤ 127 → b = c → 4 ≤ (escB [c]).length → okT (escB [c]) = true → 1 ≤ cntT (escB [c]) → (∀ x ∈ escB [c], x.toNat ≠ 60 ∧ x.toNat ≠ 62 ∧ x.toNat ≠ 34 ∧ x.toNat ≠ 39) → ([b].length = 1 ∧ 4 ≤ (escB [b]).length ∧ okT (escB [b]) = true ∧ 1 ≤ cntT (escB [b]) ∧ ∀ x ∈ escB [b], x.toNat ≠ 60 ∧ x.toNat ≠ 62 ∧ x.toNat ≠ 34 ∧ x.toNat ≠ 39) := by
        rintro c _ rfl h1 h2 h3 h4
        exact ⟨rfl, h1, h2, h3, h4⟩
      by_cases g1 : b = 38
      · exact .inr (one 38 (by decide) g1 (by decide) (by decide) (by decide) (by decide))
      by_cases g2 : b = 60
      · exact .inr (one 60 (by decide) g2 (by decide) (by decide) (by decide) (by decide))
      by_cases g3 : b = 62
      · exact .inr (one 62 (by decide) g3 (by decide) (by decide) (by decide) (by decide))
      by_cases g4 : b = 34
      · exact .inr (one 34 (by decide) g4 (by decide) (by decide) (by decide) (by decide))
      by_cases g5 : b = 39
      · exact .inr (one 39 (by decide) g5 (by decide) (by decide) (by decide) (by decide))
      left
      have ne : ∀ c : UInt8, b ≠ c → b.toNat ≠ c.toNat := fun c h e => h (UInt8.toNat_inj.1 e)
      refine ⟨by unfold escB; simp [g1, g2, g3, g4, g5], ok_ascii _ (by simp [h128]), cnt_ascii _ (by simp [h128]), fun x hx => ?_⟩
      simp at hx
      subst hx
      exact ⟨ne 60 g2, ne 62 g3, ne 34 g4, ne 39 g5⟩
    · left
      have hlen : (l.take (wd l)).length = wd l := by rw [List.length_take]; omega
      have hne : ∀ c : UInt8, l.take (wd l) ≠ [c] := fun c h => by rw [h] at hlen; simp at hlen; omega
      have hwd : wd (l.take (wd l)) = wd l := by rw [wd, dec_chunk hl hg]; rfl
      refine ⟨by unfold escB; rw [if_neg (hne _), if_neg (hne _), if_neg (hne _), if_neg (hne _), if_neg (hne _)], ?_, ?_, fun b hb => ?_⟩
      · rw [okT_cons _ (by omega), good_chunk l hl, hg, hwd, List.drop_of_length_le (by omega)]; rfl
      · rw [cntT_cons _ (by omega), hwd, List.drop_of_length_le (by omega)]; rfl
      · have := (hall b hb).1; omega
theorem esc_signs (l : List UInt8) : ∀ b ∈ escT l, b.toNat ≠ 60 ∧ b.toNat ≠ 62 ∧ b.toNat ≠ 34 ∧ b.toNat ≠ 39 := by
  refine chop_ind (p := fun l => ∀ b ∈ escT l, b.toNat ≠ 60 ∧ b.toNat ≠ 62 ∧ b.toNat ≠ 34 ∧ b.toNat ≠ 39) (fun b hb => by cases hb) (fun l hl ih b hb => ?_) l
  rw [escT_cons l hl, List.mem_append] at hb
  rcases hb with hb | hb
  · rcases chunk_cases l hl with ⟨_, h1, _⟩ | ⟨_, ⟨h1, _, _, h4⟩ | ⟨_, _, _, _, h5⟩⟩
    · rw [h1] at hb
      simp at hb
      subst hb
      decide
    · rw [h1] at hb
      exact h4 b hb
    · exact h5 b hb
  · exact ih b hb
theorem esc_ok (l : List UInt8) : okT (escT l) = true := by
  refine chop_ind (p := fun l => okT (escT l) = true) rfl (fun l hl ih => ?_) l
  rw [escT_cons l hl]
  rcases chunk_cases l hl with ⟨_, h1, _⟩ | ⟨_, ⟨h1, h2, _, _⟩ | ⟨_, _, h3, _, _⟩⟩
  · rw [h1, okT_append _ _ (by decide)]; exact ih
  · rw [h1, okT_append _ _ h2]; exact ih
  · rw [okT_append _ _ h3]; exact ih
theorem take_drop_len (l : List UInt8) : l.length = (l.take (wd l)).length + (l.drop (wd l)).length := by rw [← List.length_append, List.take_append_drop]
theorem esc_len (l : List UInt8) : l.length ≤ (escT l).length := by
  refine chop_ind (p := fun l => l.length ≤ (escT l).length) (Nat.le_refl _) (fun l hl ih => ?_) l
  rw [escT_cons l hl, List.length_append]
  have := take_drop_len l
  rcases chunk_cases l hl with ⟨_, h1, h2⟩ | ⟨_, ⟨h1, _, _, _⟩ | ⟨h1, h2, _, _, _⟩⟩
  · rw [h1]; simp; omega
  · rw [h1]; omega
  · omega
theorem esc_top (l : List UInt8) : (escT l).length ≤ 6 * l.length := by
  refine chop_ind (p := fun l => (escT l).length ≤ 6 * l.length) (Nat.le_refl _) (fun l hl ih => ?_) l
  rw [escT_cons l hl, List.length_append]
  have h0 := take_drop_len l
  have h1 := escC_len (l.take (wd l))
  have h2 : 1 ≤ (l.take (wd l)).length := by rw [List.length_take]; have := wd_pos l; omega
  omega
theorem esc_cnt (l : List UInt8) : cntT l ≤ cntT (escT l) := by
  refine chop_ind (p := fun l => cntT l ≤ cntT (escT l)) (Nat.le_refl _) (fun l hl ih => ?_) l
  rw [escT_cons l hl, cntT_cons l hl]
  rcases chunk_cases l hl with ⟨_, h1, h2⟩ | ⟨_, ⟨h1, h2, h3, _⟩ | ⟨_, _, h3, h4, _⟩⟩
  · rw [h1, cntT_append _ _ (by decide)]
    have : cntT [63] = 1 := by decide
    omega
  · rw [h1, cntT_append _ _ h2, h3]; omega
  · rw [cntT_append _ _ h3]; omega
/-- what is UTF-8, escaped, is the same, or longer -/
theorem esc_more (l : List UInt8) (h : okT l = true) : escT l = l ∨ l.length < (escT l).length := by
  revert h
  refine chop_ind (p := fun l => okT l = true → (escT l = l ∨ l.length < (escT l).length)) (fun _ => .inl rfl) (fun l hl ih h => ?_) l
  rw [okT_cons l hl, Bool.and_eq_true] at h
  have h0 := take_drop_len l
  have h1 := ih h.2
  have h2 := esc_len (l.drop (wd l))
  rw [escT_cons l hl]
  rcases chunk_cases l hl with ⟨hf, _⟩ | ⟨_, ⟨h3, _⟩ | ⟨h3, h4, _⟩⟩
  · rw [h.1] at hf; cases hf
  · rcases h1 with h1 | h1
    · left
      rw [h3, h1, List.take_append_drop]
    · right
      rw [h3, List.length_append]; omega
  · right
    rw [List.length_append]; omega
end Go.Proofs.Ytllimlkifggakaa
