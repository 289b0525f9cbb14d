/- What HttpSmuggles asks, of lists. No program. -/
import Derived.Test.YtbojigimldfghaaDoorHttpBuild
import Derived.Test.YtbojigimldfghaaDoorFillPlain
namespace Go.Proofs.YtbojigimldfghaaDoor
set_option linter.unusedVariables false
set_option linter.unusedSimpArgs false

def xaLine (y : List UInt8) : List UInt8 := [88, 45, 65, 58, 32] ++ y
/-- bytes that stay in a value as they are -/
def fineB (c : UInt8) : Bool := !blankB c && valB c && c != 13
theorem esc_fine (l : List UInt8) : (escapeL l).all fineB = true := by
  have H : ∀ k : Fin 256, (escF (UInt8.ofNat k.val)).all fineB = true := by decide +kernel
  unfold escapeL
  rw [List.all_eq_true]
  intro c hc
  obtain ⟨d, _, hd⟩ := List.mem_flatMap.1 hc
  have := H ⟨d.toNat, d.toNat_lt⟩
  simp only [UInt8.ofNat_toNat] at this
  exact List.all_eq_true.1 this c hd
theorem xaLine_is (y : List UInt8) (h : y.all fineB = true) (hl : y.length ≤ 1900) : fieldL (xaLine y) = (([88, 45, 65], y), 0) := by
  by_cases hy : y = []
  · subst hy; decide +kernel
  · have := field_plain (nm := [88, 45, 65]) (v := y) (by decide +kernel) (by decide) (fun c hc => by
      have := List.all_eq_true.1 h c hc
      unfold fineB at this
      simp at this
      exact ⟨this.1.1, this.1.2⟩) hy (by simp; omega)
    exact this
theorem xaLine_ok (y : List UInt8) (h : y.all fineB = true) : xaLine y ≠ [] ∧ (13 : UInt8) ∉ xaLine y := by
  refine ⟨by simp [xaLine], fun hm => ?_⟩
  unfold xaLine at hm
  rcases List.mem_append.1 hm with hm | hm
  · exact absurd hm (by decide)
  · have := List.all_eq_true.1 h 13 hm
    exact absurd this (by decide)
def smS (y : List UInt8) (j : Nat) : List UInt8 := linesJ (getLine :: hostLine :: List.replicate j (xaLine y))
theorem smS_succ (y : List UInt8) (j : Nat) : smS y (j + 1) = smS y j ++ [88, 45, 65, 58, 32] ++ y ++ [13, 10] := by
  unfold smS
  rw [List.replicate_succ']
  simp [linesJ, xaLine, crlf]
theorem smS_len (y : List UInt8) (hl : y.length ≤ 1900) (j : Nat) : (smS y j).length ≤ 25 + 2000 * j := by
  induction j with
  | zero => exact Nat.le_refl 25
  | succ j ih => rw [smS_succ]; simp only [List.length_append, List.length_cons, List.length_nil]; omega
theorem xa_names (y : List UInt8) (j : Nat) : ∀ q ∈ List.replicate j (([88, 45, 65], y) : PairL), sameL q.1 hostL = false ∧ sameL q.1 codeL = false ∧ sameL q.1 lengL = false := by
  intro q hq
  rw [(List.mem_replicate.1 hq).2]
  exact (by decide +kernel : sameL [88, 45, 65] hostL = false ∧ sameL [88, 45, 65] codeL = false ∧ sameL [88, 45, 65] lengL = false)
/-- fields that bear none of the three names count for nothing -/
theorem body_skip (h : PairL) (M E : List PairL) (n : Nat) (hM : ∀ q ∈ M, sameL q.1 hostL = false ∧ sameL q.1 codeL = false ∧ sameL q.1 lengL = false) : bodyL (h :: (M ++ E)) n = bodyL (h :: E) n := by
  have e : ∀ nm, (∀ q ∈ M, sameL q.1 nm = false) → allL (h :: (M ++ E)) nm = allL (h :: E) nm := fun nm hm => by
    rw [all_cons, all_cons, all_app, all_none hm, List.nil_append]
  unfold bodyL twiceB
  rw [e hostL fun q hq => (hM q hq).1, e codeL fun q hq => (hM q hq).2.1, e lengL fun q hq => (hM q hq).2.2]
theorem map_rep (y : List UInt8) (j : Nat) (h : y.all fineB = true) (hl : y.length ≤ 1900) : ((List.replicate j (xaLine y)).map fun x => (fieldL x).1) = List.replicate j (([88, 45, 65], y) : PairL) := by
  rw [List.map_replicate, xaLine_is y h hl]
theorem smS_lines (y : List UInt8) (j : Nat) (h : y.all fineB = true) : ∀ x ∈ List.replicate j (xaLine y), x ≠ [] ∧ (13 : UInt8) ∉ x := fun x hx => by
  rw [(List.mem_replicate.1 hx).2]; exact xaLine_ok y h
/-- the plain request -/
theorem smS_req (y : List UInt8) (j : Nat) (h : y.all fineB = true) (hl : y.length ≤ 1900) (hj : j < 4) : (reqL (smS y j ++ crlf)).2 = 0 ∧ (reqL (smS y j ++ crlf)).1.fs.length = 1 + j := by
  have hf : ∀ x ∈ hostLine :: List.replicate j (xaLine y), (fieldL x).2 = 0 := by
    intro x hx
    rcases List.mem_cons.1 hx with rfl | hx
    · rw [hostLine_is]
    · rw [(List.mem_replicate.1 hx).2, xaLine_is y h hl]
  have hls : ∀ x ∈ getLine :: hostLine :: List.replicate j (xaLine y), x ≠ [] ∧ (13 : UInt8) ∉ x := by
    intro x hx
    rcases List.mem_cons.1 hx with rfl | hx
    · decide
    rcases List.mem_cons.1 hx with rfl | hx
    · decide
    · exact smS_lines y j h x hx
  have hq := req_build (r := []) getLine_is hls hf
  rw [List.append_nil] at hq
  unfold smS
  have hb : bodyL ((hostLine :: List.replicate j (xaLine y)).map fun x => (fieldL x).1) ([] : List UInt8).length = 0 := by
    rw [List.map_cons, hostLine_is, map_rep y j h hl]
    have := body_skip (hostL, [97]) (List.replicate j (([88, 45, 65], y) : PairL)) [] 0 (xa_names y j)
    rw [List.append_nil] at this
    exact this.trans (by decide +kernel)
  have hlen : (hostLine :: List.replicate j (xaLine y)).length = 1 + j := by simp; omega
  rw [hq, hlen, hb, if_neg (by omega), if_neg (by simp)]
  exact ⟨rfl, by simp; omega⟩
/-! ### the eight -/
def smugT : List (List (List UInt8)) := [[[67, 111, 110, 116, 101, 110, 116, 45, 76, 101, 110, 103, 116, 104, 58, 32, 48], [67, 111, 110, 116, 101, 110, 116, 45, 76, 101, 110, 103, 116, 104, 58, 32, 48]], [[67, 111, 110, 116, 101, 110, 116, 45, 76, 101, 110, 103, 116, 104, 58, 32, 43, 48]], [[84, 114, 97, 110, 115, 102, 101, 114, 45, 69, 110, 99, 111, 100, 105, 110, 103, 58, 32, 99, 104, 117, 110, 107, 101, 100]], [[72, 111, 115, 116, 58, 32, 98]], [[88, 32, 58, 32, 49]], [[67, 111, 110, 116, 101, 110, 116, 45, 76, 101, 110, 103, 116, 104, 58, 32, 48, 44, 32, 48]], [[84, 114, 97, 110, 115, 102, 101, 114, 45, 69, 110, 99, 111, 100, 105, 110, 103, 58]], [[32, 72, 111, 115, 116, 58, 32, 98]]]
def smugS : List (List UInt8) := [[67, 111, 110, 116, 101, 110, 116, 45, 76, 101, 110, 103, 116, 104, 58, 32, 48, 13, 10, 67, 111, 110, 116, 101, 110, 116, 45, 76, 101, 110, 103, 116, 104, 58, 32, 48], [67, 111, 110, 116, 101, 110, 116, 45, 76, 101, 110, 103, 116, 104, 58, 32, 43, 48], [84, 114, 97, 110, 115, 102, 101, 114, 45, 69, 110, 99, 111, 100, 105, 110, 103, 58, 32, 99, 104, 117, 110, 107, 101, 100], [72, 111, 115, 116, 58, 32, 98], [88, 32, 58, 32, 49], [67, 111, 110, 116, 101, 110, 116, 45, 76, 101, 110, 103, 116, 104, 58, 32, 48, 44, 32, 48], [84, 114, 97, 110, 115, 102, 101, 114, 45, 69, 110, 99, 111, 100, 105, 110, 103, 58], [32, 72, 111, 115, 116, 58, 32, 98]]
def smugOf (k : Nat) : List (List UInt8) := smugT.getD k []
def smugStr (k : Nat) : List UInt8 := smugS.getD k []
theorem smug_join (k : Nat) (h : k < 8) : smugStr k ++ [13, 10] = linesJ (smugOf k) := by
  have : ∀ k : Fin 8, smugStr k.val ++ [13, 10] = linesJ (smugOf k.val) := by decide
  exact this ⟨k, h⟩
theorem smug_len (k : Nat) (h : k < 8) : (smugStr k).length ≤ 40 := by
  have : ∀ k : Fin 8, (smugStr k.val).length ≤ 40 := by decide
  exact this ⟨k, h⟩
theorem smug_few (k : Nat) (h : k < 8) : (smugOf k).length ≤ 2 := by
  have : ∀ k : Fin 8, (smugOf k.val).length ≤ 2 := by decide
  exact this ⟨k, h⟩
theorem smug_ok (k : Nat) (h : k < 8) : ∀ x ∈ smugOf k, x ≠ [] ∧ (13 : UInt8) ∉ x := by
  have : ∀ k : Fin 8, ∀ x ∈ smugOf k.val, x ≠ [] ∧ (13 : UInt8) ∉ x := by decide
  exact this ⟨k, h⟩
theorem smug_bad (k : Nat) (h : k < 8) : (smugOf k).any (fun x => decide ((fieldL x).2 ≠ 0)) = true ∨ bodyL ((hostL, [97]) :: (smugOf k).map fun x => (fieldL x).1) 0 ≠ 0 := by
  have : ∀ k : Fin 8, ((smugOf k.val).any (fun x => decide ((fieldL x).2 ≠ 0)) || decide (bodyL ((hostL, [97]) :: (smugOf k.val).map fun x => (fieldL x).1) 0 ≠ 0)) = true := by decide +kernel
  have h1 := this ⟨k, h⟩
  simp only [Bool.or_eq_true, decide_eq_true_eq] at h1
  exact h1
theorem smug_req (y : List UInt8) (j k : Nat) (h : y.all fineB = true) (hl : y.length ≤ 1900) (hj : j < 4) (hk : k < 8) : (reqL (smS y j ++ smugStr k ++ [13, 10, 13, 10])).2 ≠ 0 := by
  have e : smS y j ++ smugStr k ++ [13, 10, 13, 10] = linesJ (getLine :: (hostLine :: (List.replicate j (xaLine y) ++ smugOf k))) ++ crlf ++ [] := by
    have h1 := smug_join k hk
    have h2 : linesJ (getLine :: (hostLine :: (List.replicate j (xaLine y) ++ smugOf k))) = smS y j ++ linesJ (smugOf k) := by
      simp [linesJ, smS]
    rw [h2, ← h1]
    simp [crlf]
  have hls : ∀ x ∈ getLine :: (hostLine :: (List.replicate j (xaLine y) ++ smugOf k)), x ≠ [] ∧ (13 : UInt8) ∉ x := by
    intro x hx
    rcases List.mem_cons.1 hx with rfl | hx
    · decide
    rcases List.mem_cons.1 hx with rfl | hx
    · decide
    rcases List.mem_append.1 hx with hx | hx
    · exact smS_lines y j h x hx
    · exact smug_ok k hk x hx
  have hlen : (hostLine :: (List.replicate j (xaLine y) ++ smugOf k)).length ≤ 40 := by
    have := smug_few k hk
    simp only [List.length_cons, List.length_append, List.length_replicate]; omega
  rw [e]
  by_cases hf : (fieldsL (hostLine :: (List.replicate j (xaLine y) ++ smugOf k))).2 = 0
  · obtain ⟨_, h2, _⟩ := fieldsL_small hf
    rw [req_build getLine_is hls h2, if_neg (by omega)]
    have hb : bodyL ((hostLine :: (List.replicate j (xaLine y) ++ smugOf k)).map fun x => (fieldL x).1) ([] : List UInt8).length ≠ 0 := by
      rw [List.map_cons, hostLine_is, List.map_append, map_rep y j h hl, body_skip _ _ _ _ (xa_names y j)]
      rcases smug_bad k hk with hb | hb
      · exfalso
        obtain ⟨x, hx, hx2⟩ := List.any_eq_true.1 hb
        exact (of_decide_eq_true hx2) (h2 x (by simp [hx]))
      · exact hb
    rw [if_pos hb]
    exact hb
  · rw [req_some (lines_join _ [] hls), after_fields (by rw [getLine_is]) hf]
    exact hf
end Go.Proofs.YtbojigimldfghaaDoor
