/- Requests that are built of lines: what they are; numbers as digits. No program. -/
import Derived.Test.YtbojigimldfghaaDoorHttpParse
namespace Go.Proofs.YtbojigimldfghaaDoor
set_option linter.unusedVariables false
set_option linter.unusedSimpArgs false

theorem req_build {x0 r : List UInt8} {m p : List UInt8} {ls : List (List UInt8)} (h0 : firstL x0 = ((m, p), 0)) (hl : ∀ x ∈ x0 :: ls, x ≠ [] ∧ (13 : UInt8) ∉ x) (hf : ∀ x ∈ ls, (fieldL x).2 = 0) :
    reqL (linesJ (x0 :: ls) ++ crlf ++ r) = if 40 < ls.length then (ReqZ, 3) else if bodyL (ls.map fun x => (fieldL x).1) r.length ≠ 0 then (ReqZ, bodyL (ls.map fun x => (fieldL x).1) r.length) else (⟨m, p, ls.map fun x => (fieldL x).1, r⟩, 0) := by
  rw [req_some (lines_join (x0 :: ls) r hl)]
  have e0 : (firstL x0).2 = 0 := by rw [h0]
  by_cases h40 : 40 < ls.length
  · have e : fieldsL ls = ([], 3) := by unfold fieldsL; rw [if_pos h40]
    rw [after_fields e0 (by rw [e]; decide), e, if_pos h40]
  · have e := fieldsL_ok (by omega) hf
    rw [after_body e0 (by rw [e]), e, h0, if_neg h40]
theorem req_first {x0 r : List UInt8} {k : Nat} {ls : List (List UInt8)} (h0 : firstL x0 = (PairZ, k)) (hk : k ≠ 0) (hl : ∀ x ∈ x0 :: ls, x ≠ [] ∧ (13 : UInt8) ∉ x) : reqL (linesJ (x0 :: ls) ++ crlf ++ r) = (ReqZ, k) := by
  rw [req_some (lines_join (x0 :: ls) r hl), after_first (by rw [h0]; exact hk), h0]
def getLine : List UInt8 := [71, 69, 84, 32, 47, 32, 72, 84, 84, 80, 47, 49, 46, 49]
def hostLine : List UInt8 := [72, 111, 115, 116, 58, 32, 97]
theorem getLine_is : firstL getLine = (([71, 69, 84], [47]), 0) := by decide +kernel
theorem hostLine_is : fieldL hostLine = ((hostL, [97]), 0) := by decide +kernel
theorem all_rep (n : Nat) (q : PairL) (nm : List UInt8) (h : sameL q.1 nm = false) : allL (List.replicate n q) nm = [] := by
  unfold allL
  rw [List.filter_eq_nil_iff.2 (fun x hx => by rw [(List.mem_replicate.1 hx).2, h]; simp)]
  rfl
theorem all_cons (q : PairL) (fs : List PairL) (nm : List UInt8) : allL (q :: fs) nm = if sameL q.1 nm then q.2 :: allL fs nm else allL fs nm := by
  unfold allL
  rw [List.filter_cons]
  cases sameL q.1 nm <;> simp
theorem all_app (a b : List PairL) (nm : List UInt8) : allL (a ++ b) nm = allL a nm ++ allL b nm := by simp [allL]
theorem all_none {fs : List PairL} {nm : List UInt8} (h : ∀ q ∈ fs, sameL q.1 nm = false) : allL fs nm = [] := by
  unfold allL
  rw [List.filter_eq_nil_iff.2 (fun x hx => by rw [h x hx]; simp)]
  rfl
theorem host_host : sameL hostL hostL = true := by decide +kernel
theorem host_code : sameL hostL codeL = false := by decide +kernel
theorem host_leng : sameL hostL lengL = false := by decide +kernel
theorem leng_host : sameL lengL hostL = false := by decide +kernel
theorem leng_code : sameL lengL codeL = false := by decide +kernel
theorem leng_leng : sameL lengL lengL = true := by decide +kernel
/-- fields beside one host that are none of the three -/
theorem body_plain {fs : List PairL} (h1 : ∀ q ∈ fs, sameL q.1 hostL = false) (h2 : ∀ q ∈ fs, sameL q.1 codeL = false) (h3 : ∀ q ∈ fs, sameL q.1 lengL = false) (v : List UInt8) : bodyL ((hostL, v) :: fs) 0 = 0 := by
  have e1 : allL ((hostL, v) :: fs) hostL = [v] := by rw [all_cons, host_host, if_pos rfl, all_none h1]
  have e2 : allL ((hostL, v) :: fs) codeL = [] := by rw [all_cons, host_code, if_neg (by simp), all_none h2]
  have e3 : allL ((hostL, v) :: fs) lengL = [] := by rw [all_cons, host_leng, if_neg (by simp), all_none h3]
  rw [body_want (by rw [e1]; rfl) (by rw [e2]; rfl) (by rw [e3]; simp), e3]
  rfl

/-! ### digits -/
def digC (n : Nat) : UInt8 := UInt8.ofNat (48 + n)
def digG : Nat → Nat → List UInt8 → List UInt8
  | 0, n, s => digC n :: s
  | f + 1, n, s => if n ≤ 9 then digC n :: s else digG f (n / 10) (digC (n % 10) :: s)
def decimL (n : Nat) : List UInt8 := digG 20 n []
theorem digC_nat {n : Nat} (h : n ≤ 9) : (digC n).toNat = 48 + n := by rw [digC, UInt8.toNat_ofNat']; omega
theorem digC_dig {n : Nat} (h : n ≤ 9) : isDig (digC n) = true := by rw [isDig_iff, digC_nat h]; omega
theorem decN_cons (b : UInt8) (s : List UInt8) : decN (b :: s) = (b.toNat - 48) * 10 ^ s.length + decN s := by
  have : ∀ (s : List UInt8) (a : Nat), s.foldl (fun n b => 10 * n + (b.toNat - 48)) a = a * 10 ^ s.length + s.foldl (fun n b => 10 * n + (b.toNat - 48)) 0 := by
    intro s
    induction s with
    | nil => intro a; simp
    | cons c r ih =>
      intro a
      rw [List.foldl_cons, ih, List.foldl_cons, ih (10 * 0 + (c.toNat - 48)), List.length_cons, Nat.pow_succ]
      rw [Nat.add_mul, Nat.add_mul]
      have : 10 * a * 10 ^ r.length = a * (10 ^ r.length * 10) := by
        rw [Nat.mul_comm 10 a, Nat.mul_assoc, Nat.mul_comm 10]
      omega
  unfold decN
  rw [List.foldl_cons, this s]
  simp
/-- a row of digits that tells a number -/
structure DigOk (n k : Nat) (l : List UInt8) : Prop where
  dig : l.all isDig = true
  num : decN l = n
  pos : 1 ≤ l.length
  few : l.length ≤ k
theorem digG_ok : ∀ (f n : Nat) (s : List UInt8), n < 10 ^ (f + 1) → s.all isDig = true → DigOk (n * 10 ^ s.length + decN s) (f + 1 + s.length) (digG f n s)
  | 0, n, s, h, hs => by
    have h9 : n ≤ 9 := by simp at h; omega
    unfold digG
    exact ⟨by rw [List.all_cons, digC_dig h9, hs]; rfl, by rw [decN_cons, digC_nat h9]; congr 2; omega, by simp, by simp; omega⟩
  | f + 1, n, s, h, hs => by
    unfold digG
    by_cases h9 : n ≤ 9
    · rw [if_pos h9]
      exact ⟨by rw [List.all_cons, digC_dig h9, hs]; rfl, by rw [decN_cons, digC_nat h9]; congr 2; omega, by simp, by simp; omega⟩
    · rw [if_neg h9]
      have hm : n % 10 ≤ 9 := by omega
      have := digG_ok f (n / 10) (digC (n % 10) :: s) (by rw [Nat.pow_succ] at h; omega) (by rw [List.all_cons, digC_dig hm, hs]; rfl)
      rw [decN_cons, digC_nat hm, List.length_cons, Nat.pow_succ] at this
      have e : n / 10 * (10 ^ s.length * 10) + ((48 + n % 10 - 48) * 10 ^ s.length + decN s) = n * 10 ^ s.length + decN s := by
        rw [show 48 + n % 10 - 48 = n % 10 by omega, ← Nat.add_assoc, Nat.mul_comm (10 ^ s.length) 10, ← Nat.mul_assoc, ← Nat.add_mul]
        congr 2
        omega
      rw [e] at this
      exact ⟨this.dig, this.num, this.pos, by have := this.few; omega⟩
theorem decimL_ok (n : Nat) (h : n < 1000000) : DigOk n 21 (decimL n) := by
  have := digG_ok 20 n [] (Nat.lt_of_lt_of_le h (by decide)) rfl
  unfold decimL
  simpa [decN] using this
theorem decimL_few (n : Nat) (h : n < 1000000) : (decimL n).length ≤ 6 := by
  have : ∀ f, 5 ≤ f → (digG f n []).length ≤ 6 := by
    intro f hf
    obtain ⟨g, rfl⟩ : ∃ g, f = g + 5 := ⟨f - 5, by omega⟩
    have q : ∀ (g : Nat) (m : Nat) (s : List UInt8), m ≤ 9 → (digG g m s).length = s.length + 1 := by
      intro g m s hm
      cases g with
      | zero => rfl
      | succ g => rw [digG, if_pos hm]; rfl
    rw [digG]
    split
    · simp
    rw [digG]
    split
    · simp
    rw [digG]
    split
    · simp
    rw [digG]
    split
    · simp
    rw [digG]
    split
    · simp
    rw [q g _ _ (by omega)]
    simp
  exact this 20 (by omega)
theorem dig_not {l : List UInt8} (h : l.all isDig = true) : ∀ c ∈ l, c ≠ 13 ∧ blankB c = false ∧ valB c = true := by
  intro c hc
  have := List.all_eq_true.1 h c hc
  rw [isDig_iff] at this
  refine ⟨fun e => by rw [e] at this; exact absurd this (by decide), ?_, ?_⟩
  · unfold blankB; simp; omega
  · rw [valB_is]
    simp; omega
/-- a field whose value stands as it is behind a colon and a blank -/
theorem field_plain {nm v : List UInt8} (ht : tokenL nm = true) (hn : ∀ c ∈ nm, c ≠ 58) (hv : ∀ c ∈ v, blankB c = false ∧ valB c = true) (hne : v ≠ []) (hl : (nm ++ [58, 32] ++ v).length ≤ 2000) : fieldL (nm ++ [58, 32] ++ v) = ((nm, v), 0) := by
  have e : nm ++ [58, 32] ++ v = nm ++ 58 :: ([32] ++ v) := by simp
  have hends : endsB v := by
    obtain ⟨a, r, rfl⟩ : ∃ a r, v = a :: r := by cases v with | nil => exact absurd rfl hne | cons a r => exact ⟨a, r, rfl⟩
    refine ⟨⟨a, rfl, (hv a (by simp)).1⟩, (a :: r).getLast (by simp), List.getLast?_eq_some_getLast (by simp), (hv _ (List.getLast_mem (by simp))).1⟩
  have ht1 : trimL ([32] ++ v) = v := by
    have := trim_mid [32] v [] (by intro c hc; simp at hc; subst hc; rfl) (by simp) hends
    simpa using this
  have hval : valueL v = true := by
    unfold valueL
    rw [Bool.and_eq_true, decide_eq_true_eq]
    exact ⟨List.all_eq_true.2 fun c hc => (hv c hc).2, (trim_ends hends).symm⟩
  unfold fieldL
  rw [if_neg (by omega), e, if_pos (by simp), name_app nm _ hn, rest_app nm _ hn, ht1]
  simp [okP, ht, hval]
end Go.Proofs.YtbojigimldfghaaDoor
