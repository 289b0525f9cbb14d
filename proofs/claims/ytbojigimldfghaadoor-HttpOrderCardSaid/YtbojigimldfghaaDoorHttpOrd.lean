/- What HttpOrder asks, of lists. No program. -/
import Derived.Test.YtbojigimldfghaaDoorHttpBuild
namespace Go.Proofs.YtbojigimldfghaaDoor
set_option linter.unusedVariables false
set_option linter.unusedSimpArgs false

def ordC (c : UInt8) : UInt8 := UInt8.ofNat (65 + c.toNat % 26)
def ordD (c : UInt8) : UInt8 := UInt8.ofNat (97 + c.toNat / 16)
theorem ordC_nat (c : UInt8) : (ordC c).toNat = 65 + c.toNat % 26 := by
  have := c.toNat_lt
  unfold ordC; rw [UInt8.toNat_ofNat']; omega
theorem ordD_nat (c : UInt8) : (ordD c).toNat = 97 + c.toNat / 16 := by
  have := c.toNat_lt
  unfold ordD; rw [UInt8.toNat_ofNat']; omega
def ordV (v : Nat) : List UInt8 := ([32, 9, 32, 32] : List UInt8).take v
def ordLine (v : Nat) (c : UInt8) : List UInt8 := [120] ++ [ordC c] ++ [58] ++ ordV v ++ [ordD c] ++ [32]
def ordP (c : UInt8) : PairL := ([120] ++ [ordC c], [ordD c])
theorem ordLine_is (v : Nat) (hv : v < 5) (c : UInt8) : fieldL (ordLine v c) = (ordP c, 0) := by
  have H : ∀ v : Fin 5, ∀ k : Fin 256, fieldL (ordLine v.val (UInt8.ofNat k.val)) = (ordP (UInt8.ofNat k.val), 0) := by decide +kernel
  have := H ⟨v, hv⟩ ⟨c.toNat, c.toNat_lt⟩
  simpa using this
theorem ordLine_ok (v : Nat) (hv : v < 5) (c : UInt8) : ordLine v c ≠ [] ∧ (13 : UInt8) ∉ ordLine v c := by
  have H : ∀ v : Fin 5, ∀ k : Fin 256, ((ordLine v.val (UInt8.ofNat k.val)).contains 13) = false := by decide +kernel
  have := H ⟨v, hv⟩ ⟨c.toNat, c.toNat_lt⟩
  simp only [UInt8.ofNat_toNat] at this
  exact ⟨by simp [ordLine], by simpa using this⟩
theorem ordLine_len (v : Nat) (c : UInt8) : (ordLine v c).length ≤ 9 := by
  simp [ordLine, ordV]; omega
theorem ord_names (c : UInt8) : sameL (ordP c).1 hostL = false ∧ sameL (ordP c).1 codeL = false ∧ sameL (ordP c).1 lengL = false := by
  have H : ∀ k : Fin 256, sameL (ordP (UInt8.ofNat k.val)).1 hostL = false ∧ sameL (ordP (UInt8.ofNat k.val)).1 codeL = false ∧ sameL (ordP (UInt8.ofNat k.val)).1 lengL = false := by decide +kernel
  have := H ⟨c.toNat, c.toNat_lt⟩
  simpa only [UInt8.ofNat_toNat] using this
def ordS (cs : List UInt8) (v j : Nat) : List UInt8 := linesJ (getLine :: hostLine :: (cs.take j).map (ordLine v))
theorem ordS_succ (cs : List UInt8) (v j : Nat) (h : j < cs.length) : ordS cs v (j + 1) = ordS cs v j ++ [120] ++ [ordC cs[j]] ++ [58] ++ ordV v ++ [ordD cs[j]] ++ [32, 13, 10] := by
  unfold ordS
  rw [List.take_succ_eq_append_getElem h, List.map_append]
  simp [linesJ, ordLine, crlf]
theorem ordS_len (cs : List UInt8) (v j : Nat) (h : j ≤ cs.length) : (ordS cs v j).length ≤ 25 + 11 * j := by
  induction j with
  | zero => exact Nat.le_refl 25
  | succ j ih =>
    have := ih (by omega)
    rw [ordS_succ cs v j (by omega)]
    simp [ordV]; omega
def ordR (cs : List UInt8) (j : Nat) : ReqL := ⟨[71, 69, 84], [47], (hostL, [97]) :: (cs.take j).map ordP, []⟩
theorem ordS_req (cs : List UInt8) (v j : Nat) (hv : v < 5) (hj : j ≤ 20) : reqL (ordS cs v j ++ crlf) = (ordR cs j, 0) := by
  have hm : ((cs.take j).map (ordLine v)).map (fun x => (fieldL x).1) = (cs.take j).map ordP := by
    rw [List.map_map]
    refine List.map_congr_left fun c _ => ?_
    simp only [Function.comp]
    rw [ordLine_is v hv c]
  have hf : ∀ x ∈ hostLine :: (cs.take j).map (ordLine v), (fieldL x).2 = 0 := by
    intro x hx
    rcases List.mem_cons.1 hx with rfl | hx
    · rw [hostLine_is]
    · obtain ⟨c, _, rfl⟩ := List.mem_map.1 hx
      rw [ordLine_is v hv c]
  have hls : ∀ x ∈ getLine :: hostLine :: (cs.take j).map (ordLine v), x ≠ [] ∧ (13 : UInt8) ∉ x := by
    intro x hx
    rcases List.mem_cons.1 hx with rfl | hx
    · decide
    rcases List.mem_cons.1 hx with rfl | hx
    · decide
    · obtain ⟨c, _, rfl⟩ := List.mem_map.1 hx
      exact ordLine_ok v hv c
  have hq := req_build (r := []) getLine_is hls hf
  rw [List.append_nil] at hq
  unfold ordS
  have hb : bodyL ((hostLine :: (cs.take j).map (ordLine v)).map fun x => (fieldL x).1) ([] : List UInt8).length = 0 := by
    rw [List.map_cons, hostLine_is, hm]
    have q : ∀ q ∈ (cs.take j).map ordP, sameL q.1 hostL = false ∧ sameL q.1 codeL = false ∧ sameL q.1 lengL = false := fun q hq => by
      obtain ⟨c, _, rfl⟩ := List.mem_map.1 hq
      exact ord_names c
    exact body_plain (fun x hx => (q x hx).1) (fun x hx => (q x hx).2.1) (fun x hx => (q x hx).2.2) [97]
  have hlen : (hostLine :: (cs.take j).map (ordLine v)).length ≤ 21 := by simp; omega
  rw [hq, hb, if_neg (by omega), if_neg (by simp), List.map_cons, hostLine_is, hm]
  rfl
theorem ordR_at (cs : List UInt8) (j i : Nat) (hi : i < j) (hj : j ≤ cs.length) : (ordR cs j).fs[i + 1]? = some (ordP (cs[i]'(by omega))) := by
  unfold ordR
  simp only [List.getElem?_cons_succ, List.getElem?_map]
  rw [List.getElem?_take, if_pos hi, List.getElem?_eq_getElem (by omega)]
  rfl
theorem ordR_len (cs : List UInt8) (j : Nat) (hj : j ≤ cs.length) : (ordR cs j).fs.length = j + 1 := by
  unfold ordR
  simp; omega
end Go.Proofs.YtbojigimldfghaaDoor
