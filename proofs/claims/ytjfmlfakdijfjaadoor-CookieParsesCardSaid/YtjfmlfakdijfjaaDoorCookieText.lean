/- Fields of cookies that are built piece by piece, and what the session's cookie in them is. No program. -/
import Derived.Test.YtjfmlfakdijfjaaDoorCookiePlain
namespace Go.Proofs.YtjfmlfakdijfjaaDoor
set_option linter.unusedVariables false
set_option linter.unusedSimpArgs false

theorem joinC_snoc (a : List (List UInt8)) (x : List UInt8) : joinC (a ++ [x]) = (a.flatMap fun y => y ++ [59, 32]) ++ x := by
  induction a with
  | nil => rfl
  | cons y r ih =>
    rw [List.cons_append, joinC_cons y (r ++ [x]) (by simp), ih]
    simp
theorem cookies_snoc {l : List PairL} {p : PairL} (h : ∀ q ∈ l, okC q = true) (hp : okC p = true) : cookiesL ((l.flatMap fun q => tellC q ++ [59, 32]) ++ tellC p) = some (l ++ [p]) := by
  have e : (l.flatMap fun q => tellC q ++ [59, 32]) ++ tellC p = joinC ((l ++ [p]).map tellC) := by
    rw [List.map_append, List.map_cons, List.map_nil, joinC_snoc, List.flatMap_map]
  rw [e]
  refine cookies_join ?_ (by simp)
  intro q hq
  rcases List.mem_append.1 hq with hq | hq
  · exact h q hq
  · rw [List.mem_singleton.1 hq]; exact hp
theorem cookies_one {p : PairL} (hp : okC p = true) : cookiesL (tellC p) = some [p] := by
  have := cookies_snoc (l := []) (fun q hq => by simp at hq) hp
  simpa using this
theorem ids_app (a b : List PairL) : idsC (a ++ b) = idsC a ++ idsC b := by simp [idsC]
theorem ids_no {a : List PairL} (h : ∀ p ∈ a, p.1 ≠ hostN) : idsC a = [] := by
  unfold idsC
  rw [List.map_eq_nil_iff, List.filter_eq_nil_iff]
  intro p hp
  simpa using h p hp
theorem ids_host (v : List UInt8) : idsC [(hostN, v)] = [v] := by simp [idsC]
theorem sess_of {ls : List (List UInt8)} {ids : List (List UInt8)} (h : gatherC ls = some ids) : sessC ls = pickC ids := by
  unfold sessC
  rw [h]
theorem sess_none {ls : List (List UInt8)} (h : gatherC ls = none) : sessC ls = ([], false) := by unfold sessC; rw [h]
theorem gather1 {v : List UInt8} {l : List PairL} (h : cookiesL v = some l) : gatherC [v] = some (idsC l) := by simp [gatherC, h]
theorem gather2 {v u : List UInt8} {l m : List PairL} (h : cookiesL v = some l) (h2 : cookiesL u = some m) : gatherC [v, u] = some (idsC l ++ idsC m) := by simp [gatherC, h, h2]
theorem host_tok : tokenL hostN = true := by decide +kernel
theorem host_ok {v : List UInt8} (h : octL v = true) : okC (hostN, v) = true := by simp [okC, host_tok, h]
/-- cookies of other names, then the session's: it is told -/
theorem sess_there {l : List PairL} {v : List UInt8} (h : ∀ q ∈ l, okC q = true) (hn : ∀ q ∈ l, q.1 ≠ hostN) (hv : octL v = true) : sessC [(l.flatMap fun q => tellC q ++ [59, 32]) ++ tellC (hostN, v)] = (v, true) := by
  rw [sess_of (gather1 (cookies_snoc h (host_ok hv))), ids_app, ids_no hn, ids_host]
  rfl
/-- twice in one field -/
theorem sess_twice {l : List PairL} {v u : List UInt8} (h : ∀ q ∈ l, okC q = true) (hn : ∀ q ∈ l, q.1 ≠ hostN) (hv : octL v = true) (hu : octL u = true) : sessC [tellC (hostN, v) ++ [59, 32] ++ ((l.flatMap fun q => tellC q ++ [59, 32]) ++ tellC (hostN, u))] = ([], false) := by
  have e : tellC (hostN, v) ++ [59, 32] ++ ((l.flatMap fun q => tellC q ++ [59, 32]) ++ tellC (hostN, u)) = (((hostN, v) :: l).flatMap fun q => tellC q ++ [59, 32]) ++ tellC (hostN, u) := by simp
  have hh : ∀ q ∈ (hostN, v) :: l, okC q = true := fun q hq => by
    rcases List.mem_cons.1 hq with rfl | hq
    · exact host_ok hv
    · exact h q hq
  rw [e, sess_of (gather1 (cookies_snoc hh (host_ok hu)))]
  rw [show (hostN, v) :: l ++ [(hostN, u)] = [(hostN, v)] ++ l ++ [(hostN, u)] from rfl, ids_app, ids_app, ids_no hn, ids_host, ids_host]
  rfl
/-- once in each of two fields -/
theorem sess_apart {l m : List PairL} {v u : List UInt8} (h : ∀ q ∈ l, okC q = true) (hn : ∀ q ∈ l, q.1 ≠ hostN) (h2 : ∀ q ∈ m, okC q = true) (hn2 : ∀ q ∈ m, q.1 ≠ hostN) (hv : octL v = true) (hu : octL u = true) : sessC [(l.flatMap fun q => tellC q ++ [59, 32]) ++ tellC (hostN, v), (m.flatMap fun q => tellC q ++ [59, 32]) ++ tellC (hostN, u)] = ([], false) := by
  rw [sess_of (gather2 (cookies_snoc h (host_ok hv)) (cookies_snoc h2 (host_ok hu))), ids_app, ids_app, ids_no hn, ids_no hn2, ids_host, ids_host]
  rfl
theorem sess_badC {x y : List UInt8} (h : cookiesL y = none) : sessC [x, y] = ([], false) := sess_none (gather_bad ⟨y, by simp, h⟩)
theorem badC : cookiesL [97, 32, 98, 61, 49] = none := by decide +kernel

/-! four hexadecimal digits -/
def hexT (n : Nat) : List UInt8 := [loD (n / 4096), loD (n / 256 % 16), loD (n / 16 % 16), loD (n % 16)]
theorem lo_oct : ∀ n : Fin 16, octB (loD n.val) = true := by decide +kernel
theorem hexT_oct (n : Nat) (h : n < 65536) : octL (hexT n) = true := by
  unfold octL hexT
  simp only [List.all_cons, List.all_nil, Bool.and_true, Bool.and_eq_true]
  exact ⟨lo_oct ⟨n / 4096, by omega⟩, lo_oct ⟨n / 256 % 16, by omega⟩, lo_oct ⟨n / 16 % 16, by omega⟩, lo_oct ⟨n % 16, by omega⟩⟩

/-! quotes: around a value, one alone, a semicolon behind -/
theorem cut_end : ∀ (x : List UInt8), (59 : UInt8) ∉ x → cutS scL (x ++ [59]) = none
  | [], _ => by decide +kernel
  | a :: r, h => by
    have ha : a ≠ 59 := by rintro rfl; exact h (by simp)
    have hp : scL.isPrefixOf (a :: (r ++ [59])) = false := by
      simp only [scL, List.isPrefixOf, Bool.and_eq_false_imp, beq_iff_eq]
      intro e; exact absurd e.symm ha
    have ih := cut_end r fun hm => h (by simp [hm])
    rw [List.cons_append]
    unfold cutS
    rw [hp, ih]
    rfl
theorem quoted {n v : List UInt8} (hn : tokenL n = true) (hv : octL v = true) : cookiesL (n ++ 61 :: 34 :: (v ++ [34])) = some [(n, v)] := by
  have h59 : (59 : UInt8) ∉ n ++ 61 :: 34 :: (v ++ [34]) := by
    simp only [List.mem_append, List.mem_cons, List.not_mem_nil, or_false, not_or]
    exact ⟨tok_no59 hn, by decide, by decide, (oct_no hv).1, by decide⟩
  unfold cookiesL
  rw [if_neg (by simp), pcs_one h59]
  have h1 : unqL (34 :: (v ++ [34])) = v := unq_two v
  simp only [List.map_cons, List.map_nil, cookie_is hn, h1, hv, if_true, allSome, Option.map_some]
theorem half_quoted {n v : List UInt8} (hn : tokenL n = true) (hv : octL v = true) : cookiesL (n ++ 61 :: 34 :: v) = none := by
  have h59 : (59 : UInt8) ∉ n ++ 61 :: 34 :: v := by
    simp only [List.mem_append, List.mem_cons, not_or]
    exact ⟨tok_no59 hn, by decide, by decide, (oct_no hv).1⟩
  unfold cookiesL
  rw [if_neg (by simp), pcs_one h59]
  simp [cookie_is hn, unq_one hv, allSome]
theorem semi_behind {n v : List UInt8} (hn : tokenL n = true) (hv : octL v = true) : cookiesL (n ++ 61 :: (v ++ [59])) = none := by
  have h59 : (59 : UInt8) ∉ n ++ 61 :: v := by
    simp only [List.mem_append, List.mem_cons, not_or]
    exact ⟨tok_no59 hn, by decide, (oct_no hv).1⟩
  have e : n ++ 61 :: (v ++ [59]) = (n ++ 61 :: v) ++ [59] := by simp
  have hq : unqL (v ++ [59]) = v ++ [59] := unq_bare (by
    rw [List.mem_append]; rintro (h1 | h1)
    · exact (oct_no hv).2 h1
    · exact absurd h1 (by decide))
  have ho : octL (v ++ [59]) = false := by
    unfold octL
    rw [List.all_append]
    simp [octB]
  unfold cookiesL
  rw [if_neg (by simp), e, pcs_last (cut_end _ h59), ← e]
  simp [cookie_is hn, hq, ho, allSome]
/-- a value of one byte -/
theorem one_byte (c : UInt8) : cookiesL [97, 61, c] = if octB c = true then some [([97], [c])] else none := by
  have ht : tokenL [97] = true := by decide +kernel
  have hc : cutS scL [97, 61, c] = none := by
    simp [cutS, scL, List.isPrefixOf]
  unfold cookiesL
  rw [if_neg (by simp), pcs_last hc]
  have h1 := cookie_is (v := [c]) ht
  have h2 : unqL [c] = [c] := by simp [unqL]
  rw [h2] at h1
  have h3 : octL [c] = octB c := by simp [octL]
  rw [h3] at h1
  simp only [List.map_cons, List.map_nil]
  rw [show ([97, 61, c] : List UInt8) = [97] ++ 61 :: [c] from rfl, h1]
  cases octB c <;> simp [allSome]

/-! the two fronts -/
theorem front_host {b : List UInt8} (h : smallL b = smallL [95, 95, 104, 111, 115, 116, 45, 120]) (secure domain : Bool) (path : List UInt8) : prefL b secure path domain = (secure && (decide (path = [47]) && !domain)) := by
  have hl : b.length = 8 := by have := congrArg List.length h; simpa [smallL] using this
  have hb : beginsL b hostF = true := by
    have e : b = b.take 7 ++ b.drop 7 := (List.take_append_drop 7 b).symm
    rw [e]
    refine begins_app ?_
    have := congrArg (List.take 7) h
    rw [smallL, ← List.map_take] at this
    exact this
  unfold prefL
  rw [if_pos hb]
theorem front_sec (secure domain : Bool) (path : List UInt8) : prefL [95, 95, 115, 101, 99, 117, 114, 101, 45, 120] secure path domain = secure := by
  unfold prefL
  rw [if_neg (by decide +kernel), show beginsL [95, 95, 115, 101, 99, 117, 114, 101, 45, 120] secF = true by decide +kernel]
  rfl
theorem front_none {n : List UInt8} (h1 : beginsL n hostF = false) (h2 : beginsL n secF = false) (secure domain : Bool) (path : List UInt8) : prefL n secure path domain = true := by
  unfold prefL
  rw [h1, h2]; rfl
theorem front_x : beginsL [120, 95, 95, 104, 111, 115, 116, 45, 120] hostF = false ∧ beginsL [120, 95, 95, 104, 111, 115, 116, 45, 120] secF = false := by decide +kernel
theorem front_short : beginsL [95, 95, 72, 111, 115, 116] hostF = false ∧ beginsL [95, 95, 72, 111, 115, 116] secF = false := by decide +kernel
/-- a small letter made great is the same -/
theorem small_great : ∀ k : Fin 256, 97 ≤ k.val → k.val ≤ 122 → smallB (UInt8.ofNat k.val - 32) = smallB (UInt8.ofNat k.val) := by decide +kernel
theorem small_down (c : UInt8) (h : 97 ≤ c.toNat ∧ c.toNat ≤ 122) : smallB (c - 32) = smallB c := by
  have h1 := c.toNat_lt
  have := small_great ⟨c.toNat, h1⟩ h.1 h.2
  simpa using this
theorem small_set (l : List UInt8) (i : Nat) (hi : i < l.length) (h : 97 ≤ (l[i]).toNat ∧ (l[i]).toNat ≤ 122) : smallL (l.set i (l[i] - 32)) = smallL l := by
  unfold smallL
  rw [List.map_set, small_down _ h]
  refine List.ext_getElem (by simp) fun j h1 h2 => ?_
  rw [List.getElem_set]
  by_cases e : i = j
  · subst e; simp
  · simp [e]
/-- cookies that may be, of other names -/
theorem c_ok : ∀ k : Fin 26, okC ([99, UInt8.ofNat (97 + k.val)], [49]) = true := by decide +kernel
theorem c_name (k : UInt8) : ([99, k] : List UInt8) ≠ hostN := by simp [hostN]
theorem x_ok (n : Nat) (h : n < 65536) : okC ([120], hexT n) = true := by
  unfold okC
  rw [hexT_oct n h, Bool.and_true]
  show tokenL [120] = true
  decide +kernel
theorem x_name : ([120] : List UInt8) ≠ hostN := by decide
/-- sixteen signs -/
def sixS : List UInt8 := [48, 49, 50, 51, 52, 53, 54, 55, 56, 57, 97, 98, 99, 100, 101, 102]
theorem six_oct : ∀ k : Fin 16, octB (sixS.getD k.val 0) = true := by decide +kernel
def sevS : List UInt8 := [97, 98, 99, 48, 61, 40, 47]
theorem sev_oct : ∀ k : Fin 7, octB (sevS.getD k.val 0) = true := by decide +kernel
theorem oct_snoc {v : List UInt8} {c : UInt8} (h : octL v = true) (hc : octB c = true) : octL (v ++ [c]) = true := by
  unfold octL at h ⊢
  rw [List.all_append, h]
  simp [hc]
/-- what the session's cookie is set to, read, and sent back -/
theorem host_back {v : List UInt8} {n : Nat} (hv : octL v = true) (hn : n ≤ 999999999) : setC (hostN, v) (n : Int) = (setT (hostN, v) n, 0) ∧ readL (setT (hostN, v) n) = (((hostN, v), (n : Int)), true) := by
  have hs : setOk (hostN, v) (n : Int) = true := by
    unfold setOk
    rw [host_ok hv]
    simp; omega
  have e : setC (hostN, v) (n : Int) = (setT (hostN, v) n, 0) := by
    unfold setC
    rw [if_pos hs]
    simp
  refine ⟨e, ?_⟩
  have := readL_back (p := (hostN, v)) (age := (n : Int)) (by rw [e])
  rw [e] at this
  exact this
end Go.Proofs.YtjfmlfakdijfjaaDoor
