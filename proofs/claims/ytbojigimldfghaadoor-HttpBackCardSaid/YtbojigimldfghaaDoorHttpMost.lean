/- What HttpMost asks, of lists: forty fields, a long first line, a large body. No program. -/
import Derived.Test.YtbojigimldfghaaDoorHttpBuild
namespace Go.Proofs.YtbojigimldfghaaDoor
set_option linter.unusedVariables false
set_option linter.unusedSimpArgs false

def xLine : List UInt8 := [88, 58, 32, 49]
theorem xLine_is : fieldL xLine = (([88], [49]), 0) := by decide +kernel
def mostS (j : Nat) : List UInt8 := linesJ (getLine :: hostLine :: List.replicate j xLine)
theorem mostS_zero : mostS 0 = [71, 69, 84, 32, 47, 32, 72, 84, 84, 80, 47, 49, 46, 49, 13, 10, 72, 111, 115, 116, 58, 32, 97, 13, 10] := rfl
theorem mostS_succ (j : Nat) : mostS (j + 1) = mostS j ++ [88, 58, 32, 49, 13, 10] := by
  unfold mostS
  rw [List.replicate_succ']
  simp [linesJ, xLine, crlf]
theorem mostS_len (j : Nat) : (mostS j).length = 25 + 6 * j := by
  induction j with
  | zero => rfl
  | succ j ih => rw [mostS_succ, List.length_append, ih]; simp; omega
theorem most_lines (j : Nat) : ∀ x ∈ getLine :: hostLine :: List.replicate j xLine, x ≠ [] ∧ (13 : UInt8) ∉ x := by
  intro x hx
  rcases List.mem_cons.1 hx with rfl | hx
  · decide
  rcases List.mem_cons.1 hx with rfl | hx
  · decide
  · rw [(List.mem_replicate.1 hx).2]; decide
theorem mostS_req (j : Nat) : (reqL (mostS j ++ crlf)).2 = if 1 + j ≤ 40 then 0 else 3 := by
  have hf : ∀ x ∈ hostLine :: List.replicate j xLine, (fieldL x).2 = 0 := by
    intro x hx
    rcases List.mem_cons.1 hx with rfl | hx
    · rw [hostLine_is]
    · rw [(List.mem_replicate.1 hx).2, xLine_is]
  have h := req_build (r := []) getLine_is (most_lines j) hf
  rw [List.append_nil] at h
  unfold mostS
  rw [h]
  have hb : bodyL ((hostLine :: List.replicate j xLine).map fun x => (fieldL x).1) ([] : List UInt8).length = 0 := by
    rw [List.map_cons, hostLine_is, List.map_replicate, xLine_is]
    have q : ∀ q ∈ List.replicate j (([88], [49]) : PairL), q = (([88], [49]) : PairL) := fun q hq => (List.mem_replicate.1 hq).2
    exact body_plain (fun x hx => by rw [q x hx]; decide +kernel) (fun x hx => by rw [q x hx]; decide +kernel) (fun x hx => by rw [q x hx]; decide +kernel) [97]
  have hlen : (hostLine :: List.replicate j xLine).length = 1 + j := by simp; omega
  rw [hlen, hb]
  by_cases h40 : 40 < 1 + j
  · rw [if_pos h40, if_neg (by omega)]
  · rw [if_neg h40, if_neg (by simp), if_pos (by omega)]

/-! ### a long first line -/
def pathLine (m : Nat) : List UInt8 := [71, 69, 84, 32, 47] ++ List.replicate m 97 ++ [32, 72, 84, 84, 80, 47, 49, 46, 49]
def mostP (m : Nat) : List UInt8 := [71, 69, 84, 32, 47] ++ List.replicate m 97 ++ [32, 72, 84, 84, 80, 47, 49, 46, 49, 13, 10, 72, 111, 115, 116, 58, 32, 97, 13, 10, 13, 10]
theorem mostP_len (m : Nat) : (mostP m).length = 27 + m := by simp [mostP]; omega
theorem mostP_is (m : Nat) : mostP m = linesJ [pathLine m, hostLine] ++ crlf ++ [] := by simp [mostP, pathLine, linesJ, hostLine, crlf]
theorem pathLine_is (m : Nat) (h : m + 14 ≤ 2000) : firstL (pathLine m) = (([71, 69, 84], 47 :: List.replicate m 97), 0) := by
  have hl : ¬ 2000 < (pathLine m).length := by simp [pathLine]; omega
  have hw : wordsL (pathLine m) = some ([71, 69, 84], 47 :: List.replicate m 97, [72, 84, 84, 80, 47, 49, 46, 49]) := by
    unfold wordsL
    have e1 : pathLine m = [71, 69, 84] ++ [32] ++ (47 :: List.replicate m 97 ++ [32] ++ [72, 84, 84, 80, 47, 49, 46, 49]) := by simp [pathLine]
    rw [e1, cut_app 32 [] [71, 69, 84] _ (by decide)]
    simp only
    rw [cut_app 32 [] (47 :: List.replicate m 97) _ (by
      intro hm
      rcases List.mem_cons.1 hm with e | e
      · exact absurd e (by decide)
      · exact absurd (List.mem_replicate.1 e).2 (by decide))]
    rfl
  have hp : pathL (47 :: List.replicate m 97) = true := by
    unfold pathL
    rw [Bool.and_eq_true]
    refine ⟨by simp, List.all_eq_true.2 fun c hc => ?_⟩
    rcases List.mem_cons.1 hc with rfl | hc
    · decide
    · rw [(List.mem_replicate.1 hc).2]; decide
  unfold firstL
  rw [if_neg hl, hw]
  simp only
  have ho : firstOk ([71, 69, 84], 47 :: List.replicate m 97, [72, 84, 84, 80, 47, 49, 46, 49]) = true := by
    unfold firstOk
    simp only
    rw [hp, decide_eq_true (by rfl), show tokenL [71, 69, 84] = true by decide +kernel]
    rfl
  rw [if_pos ho]
theorem path_lines (m : Nat) : ∀ x ∈ [pathLine m, hostLine], x ≠ [] ∧ (13 : UInt8) ∉ x := by
  intro x hx
  rcases List.mem_cons.1 hx with rfl | hx
  · refine ⟨by simp [pathLine], fun h => ?_⟩
    simp [pathLine] at h
  · rw [List.mem_singleton.1 hx]; decide
theorem mostP_req (m : Nat) : (reqL (mostP m)).2 = if m + 14 ≤ 2000 then 0 else 3 := by
  rw [mostP_is]
  by_cases h : m + 14 ≤ 2000
  · rw [req_build (r := []) (pathLine_is m h) (path_lines m) (fun x hx => by rw [List.mem_singleton.1 hx, hostLine_is]), if_pos h, if_neg (by simp)]
    have hb : bodyL ([hostLine].map fun x => (fieldL x).1) ([] : List UInt8).length = 0 := by
      rw [List.map_cons, hostLine_is]
      exact body_plain (fs := []) (by simp) (by simp) (by simp) [97]
    rw [hb, if_neg (by simp)]
  · have h0 : firstL (pathLine m) = (PairZ, 3) := by
      unfold firstL
      rw [if_pos (by simp [pathLine]; omega)]
    rw [req_first h0 (by decide) (path_lines m), if_neg h]

/-! ### a large body -/
def bodyHead : List UInt8 := [71, 69, 84, 32, 47, 32, 72, 84, 84, 80, 47, 49, 46, 49, 13, 10, 72, 111, 115, 116, 58, 32, 97, 13, 10, 67, 111, 110, 116, 101, 110, 116, 45, 76, 101, 110, 103, 116, 104, 58, 32]
def bodyA (s : Nat) : List UInt8 := bodyHead ++ decimL s
def bodyB (s : Nat) : List UInt8 := bodyA s ++ [13, 10, 13, 10]
def mostB (s : Nat) : List UInt8 := bodyB s ++ List.replicate s 0
theorem bodyA_len (s : Nat) (h : s < 1000000) : (bodyA s).length ≤ 60 := by
  have := decimL_few s h
  unfold bodyA
  rw [List.length_append, show bodyHead.length = 41 from rfl]; omega
theorem bodyB_len (s : Nat) (h : s < 1000000) : (bodyB s).length ≤ 64 := by
  have := bodyA_len s h
  unfold bodyB
  rw [List.length_append, show ([13, 10, 13, 10] : List UInt8).length = 4 from rfl]; omega
theorem mostB_len (s : Nat) (h : s < 5000) : (mostB s).length ≤ 6000 := by
  have := bodyB_len s (by omega)
  unfold mostB
  rw [List.length_append, List.length_replicate]; omega
def lengLine (s : Nat) : List UInt8 := lengL ++ [58, 32] ++ decimL s
theorem lengLine_is (s : Nat) (h : s < 1000000) : fieldL (lengLine s) = ((lengL, decimL s), 0) := by
  have hd := decimL_ok s h
  have hf := decimL_few s h
  refine field_plain (by decide +kernel) (by decide +kernel) (fun c hc => (dig_not hd.dig c hc).2) ?_ ?_
  · intro e
    have := hd.pos
    rw [e] at this
    simp at this
  · simp only [List.length_append, show lengL.length = 14 from rfl, List.length_cons, List.length_nil]; omega
theorem leng_lines (s : Nat) (h : s < 1000000) : ∀ x ∈ [getLine, hostLine, lengLine s], x ≠ [] ∧ (13 : UInt8) ∉ x := by
  have hd := decimL_ok s h
  intro x hx
  rcases List.mem_cons.1 hx with rfl | hx
  · decide
  rcases List.mem_cons.1 hx with rfl | hx
  · decide
  · rw [List.mem_singleton.1 hx]
    refine ⟨by simp [lengLine, lengL], fun h13 => ?_⟩
    unfold lengLine at h13
    rw [List.mem_append] at h13
    rcases h13 with h13 | h13
    · exact absurd h13 (by decide)
    · exact (dig_not hd.dig 13 h13).1 rfl
theorem want_dec (s n : Nat) (h : s < 1000000) : wantL [decimL s] = some n ↔ s ≤ 4000 ∧ s = n := by
  have hd := decimL_ok s h
  have hf := decimL_few s h
  have e : decB (decimL s) 4000 = decide (s ≤ 4000) := by
    unfold decB
    rw [hd.dig, decide_eq_true hd.pos, decide_eq_true (show (decimL s).length ≤ 9 by omega), hd.num]
    simp
    omega
  unfold wantL
  simp only
  rw [e, hd.num]
  by_cases h4 : s ≤ 4000
  · simp [h4]
  · simp [h4]
theorem body_ofLen (s n : Nat) (h : s < 1000000) : bodyL [(hostL, [97]), (lengL, decimL s)] n = if s ≤ 4000 ∧ s = n then 0 else 13 := by
  have e1 : allL [(hostL, [97]), (lengL, decimL s)] hostL = [[97]] := by rw [all_cons, host_host, if_pos rfl, all_cons, leng_host]; rfl
  have e2 : allL [(hostL, [97]), (lengL, decimL s)] codeL = [] := by rw [all_cons, host_code, if_neg (by simp), all_cons, leng_code]; rfl
  have e3 : allL [(hostL, [97]), (lengL, decimL s)] lengL = [decimL s] := by rw [all_cons, host_leng, if_neg (by simp), all_cons, leng_leng]; rfl
  rw [body_want (by rw [e1]; rfl) (by rw [e2]; rfl) (by rw [e3]; simp), e3]
  by_cases hh : s ≤ 4000 ∧ s = n
  · rw [if_pos ((want_dec s n h).2 hh), if_pos hh]
  · rw [if_neg (fun e => hh ((want_dec s n h).1 e)), if_neg hh]
theorem mostB_is (s : Nat) : mostB s = linesJ [getLine, hostLine, lengLine s] ++ crlf ++ List.replicate s 0 := by
  simp [mostB, bodyB, bodyA, bodyHead, linesJ, getLine, hostLine, lengLine, lengL, crlf]
theorem mostB_req (s : Nat) (h : s < 5000) : (reqL (mostB s)).2 = if s ≤ 4000 then 0 else 13 := by
  rw [mostB_is, req_build getLine_is (leng_lines s (by omega)) (by
    intro x hx
    rcases List.mem_cons.1 hx with rfl | hx
    · rw [hostLine_is]
    · rw [List.mem_singleton.1 hx, lengLine_is s (by omega)]), if_neg (by simp)]
  have hb : bodyL ([hostLine, lengLine s].map fun x => (fieldL x).1) (List.replicate s (0 : UInt8)).length = if s ≤ 4000 then 0 else 13 := by
    rw [List.map_cons, hostLine_is, List.map_cons, lengLine_is s (by omega), List.length_replicate]
    rw [show ([].map fun x => (fieldL x).1) = ([] : List PairL) from rfl, body_ofLen s s (by omega)]
    by_cases h4 : s ≤ 4000
    · rw [if_pos ⟨h4, rfl⟩, if_pos h4]
    · rw [if_neg (fun e => h4 e.1), if_neg h4]
  rw [hb]
  by_cases h4 : s ≤ 4000
  · rw [if_pos h4, if_neg (by simp)]
  · rw [if_neg h4, if_pos (by simp)]
end Go.Proofs.YtbojigimldfghaaDoor
