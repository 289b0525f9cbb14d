/- What HttpBack asks, of lists. No program. -/
import Derived.Test.YtbojigimldfghaaDoorHttpMost
import Derived.Test.YtbojigimldfghaaDoorHttpText
namespace Go.Proofs.YtbojigimldfghaaDoor
set_option linter.unusedVariables false
set_option linter.unusedSimpArgs false

theorem tok_no32 {l : List UInt8} (h : tokenL l = true) : (32 : UInt8) ∉ l := fun hm => by
  unfold tokenL at h
  rw [Bool.and_eq_true] at h
  have := List.all_eq_true.1 h.1 32 hm
  exact absurd this (by decide +kernel)
theorem path_no32 {l : List UInt8} (h : pathL l = true) : (32 : UInt8) ∉ l := fun hm => by
  unfold pathL at h
  rw [Bool.and_eq_true] at h
  have := List.all_eq_true.1 h.2 32 hm
  exact absurd this (by decide +kernel)
/-- a first line that is one -/
theorem first_of {m p : List UInt8} (hm : tokenL m = true) (hp : pathL p = true) (hl : (firstT m p).length ≤ 2000) : firstL (firstT m p) = ((m, p), 0) := by
  have hw : wordsL (firstT m p) = some (m, p, verL) := by
    unfold wordsL
    have e1 : firstT m p = m ++ [32] ++ (p ++ [32] ++ verL) := by simp [firstT]
    rw [e1, cut_app 32 [] m _ (tok_no32 hm)]
    simp only
    rw [cut_app 32 [] p _ (path_no32 hp)]
    rfl
  unfold firstL
  rw [if_neg (by omega), hw]
  simp only
  have ho : firstOk (m, p, verL) = true := by
    unfold firstOk
    simp only
    rw [hp, hm]
    simp
  rw [if_pos ho]
theorem first_line {m p : List UInt8} (hm : tokenL m = true) (hp : pathL p = true) : firstT m p ≠ [] ∧ (13 : UInt8) ∉ firstT m p := by
  refine ⟨by simp [firstT], fun h => ?_⟩
  unfold firstT at h
  simp only [List.mem_append] at h
  rcases h with (((h | h) | h) | h) | h
  · exact tok_no13 hm h
  · exact absurd h (by decide)
  · exact path_no13 hp h
  · exact absurd h (by decide)
  · exact absurd h (by decide)
theorem lines_open13 : ∀ (ls : List (List UInt8)), (∀ x ∈ ls, x ≠ [] ∧ (13 : UInt8) ∉ x) → linesL (linesJ ls ++ [13]) = none
  | [], h => by decide +kernel
  | x :: ls, h => by
    obtain ⟨h1, h2⟩ := h x (by simp)
    have e : linesJ (x :: ls) ++ [13] = x ++ crlf ++ (linesJ ls ++ [13]) := by simp [linesJ]
    rw [e, lines_step (cut_crlf x _ h2) h1, lines_open13 ls (fun y hy => h y (by simp [hy]))]
    rfl
/-- a field that stands for itself -/
def fineF (p : PairL) : Prop := printF p = (lineL p, 0) ∧ fieldL (lineL p) = (p, 0)
/-- a request whose parts are as they may be, but for its length -/
structure FineQ (r : ReqL) : Prop where
  m : tokenL r.m = true
  p : pathL r.p = true
  long : (firstT r.m r.p).length ≤ 2000
  fs : ∀ x ∈ r.fs, fineF x
  few : r.fs.length ≤ 40
theorem fine_lines {r : ReqL} (h : FineQ r) : r.fs.map lineP = r.fs.map lineL := List.map_congr_left fun x hx => by
  unfold lineP; rw [(h.fs x hx).1]
theorem fine_map {r : ReqL} (h : FineQ r) : (r.fs.map lineP).map (fun x => (fieldL x).1) = r.fs := by
  rw [fine_lines h, List.map_map]
  have : ∀ x ∈ r.fs, ((fun x => (fieldL x).1) ∘ lineL) x = x := fun x hx => by
    show (fieldL (lineL x)).1 = x
    rw [(h.fs x hx).2]
  rw [List.map_congr_left this, List.map_id']
theorem fine_ok {r : ReqL} (h : FineQ r) : ∀ x ∈ firstT r.m r.p :: r.fs.map lineP, x ≠ [] ∧ (13 : UInt8) ∉ x := by
  intro x hx
  rcases List.mem_cons.1 hx with rfl | hx
  · exact first_line h.m h.p
  · obtain ⟨y, hy, rfl⟩ := List.mem_map.1 hx
    exact lineP_line (by rw [(h.fs y hy).1])
theorem fine_fields {r : ReqL} (h : FineQ r) : ∀ x ∈ r.fs.map lineP, (fieldL x).2 = 0 := by
  intro x hx
  obtain ⟨y, hy, rfl⟩ := List.mem_map.1 hx
  unfold lineP
  rw [(h.fs y hy).1]
  show (fieldL (lineL y)).2 = 0
  rw [(h.fs y hy).2]
theorem text_lines (r : ReqL) (b : List UInt8) : textQ ⟨r.m, r.p, r.fs, b⟩ = linesJ (firstT r.m r.p :: r.fs.map lineP) ++ crlf ++ b := by
  unfold textQ
  rw [linesJ_cons]
theorem fine_req {r : ReqL} (h : FineQ r) (b : List UInt8) : reqL (textQ ⟨r.m, r.p, r.fs, b⟩) = if bodyL r.fs b.length ≠ 0 then (ReqZ, bodyL r.fs b.length) else (⟨r.m, r.p, r.fs, b⟩, 0) := by
  rw [text_lines, req_build (first_of h.m h.p h.long) (fine_ok h) (fine_fields h), List.length_map, if_neg (by have := h.few; omega), fine_map h]

/-! ### the request that HttpBack builds -/
def lenLx : List UInt8 := [99, 111, 110, 116, 101, 110, 116, 45, 76, 69, 78, 71, 84, 72]
def bkC (c : UInt8) : UInt8 := UInt8.ofNat (33 + c.toNat % 94)
def bkD (c : UInt8) : UInt8 := UInt8.ofNat (97 + c.toNat % 26)
theorem bkC_nat (c : UInt8) : (bkC c).toNat = 33 + c.toNat % 94 := by
  have := c.toNat_lt
  unfold bkC; rw [UInt8.toNat_ofNat']; omega
theorem bkD_nat (c : UInt8) : (bkD c).toNat = 97 + c.toNat % 26 := by
  have := c.toNat_lt
  unfold bkD; rw [UInt8.toNat_ofNat']; omega
def bkM (post : Bool) : List UInt8 := if post then [80, 79, 83, 84] else [71, 69, 84]
def bkP (cs : List UInt8) (j : Nat) : List UInt8 := [47] ++ (cs.take j).map bkC
theorem bkP_succ (cs : List UInt8) (j : Nat) (h : j < cs.length) : bkP cs (j + 1) = bkP cs j ++ [bkC cs[j]] := by
  unfold bkP
  rw [List.take_succ_eq_append_getElem h, List.map_append]
  simp
theorem bkP_len (cs : List UInt8) (j : Nat) : (bkP cs j).length ≤ 1 + j := by simp [bkP]; omega
def bkX (d : UInt8) : PairL := ([88], [bkD d])
def bkF (ds : List UInt8) (j : Nat) : List PairL := [(hostL, [97])] ++ (ds.take j).map bkX
theorem bkF_succ (ds : List UInt8) (j : Nat) (h : j < ds.length) : bkF ds (j + 1) = bkF ds j ++ [bkX ds[j]] := by
  unfold bkF
  rw [List.take_succ_eq_append_getElem h, List.map_append]
  simp
theorem bkF_len (ds : List UInt8) (j : Nat) : (bkF ds j).length ≤ 1 + j := by simp [bkF]; omega
def bkG (ds : List UInt8) (j n : Nat) : List PairL := bkF ds j ++ [(lenLx, decimL n)]
def bkR (post : Bool) (cs ds : List UInt8) (i j : Nat) (b : List UInt8) (n : Nat) : ReqL := ⟨bkM post, bkP cs i, bkG ds j n, b⟩
theorem bkX_fine (d : UInt8) : fineF (bkX d) := by
  have H : ∀ k : Fin 256, printF (bkX (UInt8.ofNat k.val)) = (lineL (bkX (UInt8.ofNat k.val)), 0) ∧ fieldL (lineL (bkX (UInt8.ofNat k.val))) = (bkX (UInt8.ofNat k.val), 0) := by decide +kernel
  have := H ⟨d.toNat, d.toNat_lt⟩
  simp only [UInt8.ofNat_toNat] at this
  exact this
theorem bkX_names (d : UInt8) : sameL (bkX d).1 hostL = false ∧ sameL (bkX d).1 codeL = false ∧ sameL (bkX d).1 lengL = false := by
  show sameL [88] hostL = false ∧ sameL [88] codeL = false ∧ sameL [88] lengL = false
  decide +kernel
theorem host_fine : fineF (hostL, [97]) := by
  show printF (hostL, [97]) = (lineL (hostL, [97]), 0) ∧ fieldL (lineL (hostL, [97])) = ((hostL, [97]), 0)
  decide +kernel
theorem dec_value {n : Nat} (h : n < 1000000) : valueL (decimL n) = true := by
  have hd := decimL_ok n h
  have hne : decimL n ≠ [] := fun e => by have := hd.pos; rw [e] at this; simp at this
  obtain ⟨a, r, e⟩ : ∃ a r, decimL n = a :: r := by cases hc : decimL n with | nil => exact absurd hc hne | cons a r => exact ⟨a, r, rfl⟩
  have hall : ∀ c ∈ decimL n, blankB c = false ∧ valB c = true := fun c hc => (dig_not hd.dig c hc).2
  have hends : endsB (decimL n) := ⟨⟨a, by rw [e]; rfl, (hall a (by rw [e]; simp)).1⟩, (decimL n).getLast hne, List.getLast?_eq_some_getLast hne, (hall _ (List.getLast_mem hne)).1⟩
  unfold valueL
  rw [Bool.and_eq_true, decide_eq_true_eq]
  exact ⟨List.all_eq_true.2 fun c hc => (hall c hc).2, (trim_ends hends).symm⟩
theorem leng_fine (n : Nat) (h : n < 1000000) : fineF (lenLx, decimL n) := by
  have hd := decimL_ok n h
  have hf := decimL_few n h
  have hne : decimL n ≠ [] := fun e => by have := hd.pos; rw [e] at this; simp at this
  have hl : (lenLx ++ [58, 32] ++ decimL n).length ≤ 2000 := by simp only [List.length_append, show lenLx.length = 14 from rfl, List.length_cons, List.length_nil]; omega
  refine ⟨?_, field_plain (nm := lenLx) (by decide +kernel) (by decide +kernel) (fun c hc => (dig_not hd.dig c hc).2) hne hl⟩
  unfold printF
  have ho : okP (lenLx, decimL n) = true := by
    unfold okP
    simp only
    rw [dec_value h, show tokenL lenLx = true by decide +kernel]
    rfl
  rw [if_pos ho, if_neg (by show ¬ 2000 < (lenLx ++ [58, 32] ++ decimL n).length; omega)]
theorem bkM_tok (post : Bool) : tokenL (bkM post) = true := by cases post <;> decide +kernel
theorem bkP_path (cs : List UInt8) (j : Nat) : pathL (bkP cs j) = true := by
  unfold pathL
  rw [Bool.and_eq_true]
  refine ⟨by simp [bkP], List.all_eq_true.2 fun c hc => ?_⟩
  unfold bkP at hc
  rw [List.mem_append] at hc
  rcases hc with hc | hc
  · rw [List.mem_singleton.1 hc]; decide
  · obtain ⟨d, _, rfl⟩ := List.mem_map.1 hc
    unfold inPath
    rw [bkC_nat, Bool.and_eq_true, decide_eq_true_eq, decide_eq_true_eq]
    omega
theorem bkR_fine (post : Bool) (cs ds : List UInt8) (i j : Nat) (b : List UInt8) (n : Nat) (hi : i ≤ 20) (hj : j ≤ 20) (hn : n ≤ 200) : FineQ (bkR post cs ds i j b n) where
  m := bkM_tok post
  p := bkP_path cs i
  long := by
    have h1 := bkP_len cs i
    have h2 : (bkM post).length ≤ 4 := by cases post <;> decide
    show (firstT (bkM post) (bkP cs i)).length ≤ 2000
    simp only [firstT, List.length_append, List.length_cons, List.length_nil, show verL.length = 8 from rfl]
    omega
  fs := by
    intro x hx
    have hx' : x ∈ bkG ds j n := hx
    unfold bkG bkF at hx'
    simp only [List.mem_append, List.mem_singleton] at hx'
    rcases hx' with (rfl | hx') | rfl
    · exact host_fine
    · obtain ⟨d, _, rfl⟩ := List.mem_map.1 hx'
      exact bkX_fine d
    · exact leng_fine n (by omega)
  few := by
    have := bkF_len ds j
    show (bkG ds j n).length ≤ 40
    simp only [bkG, List.length_append, List.length_cons, List.length_nil]
    omega
theorem bkG_body (ds : List UInt8) (j n k : Nat) (hn : n ≤ 200) : bodyL (bkG ds j n) k = if n = k then 0 else 13 := by
  have hx : ∀ q ∈ (ds.take j).map bkX, sameL q.1 hostL = false ∧ sameL q.1 codeL = false ∧ sameL q.1 lengL = false := fun q hq => by
    obtain ⟨d, _, rfl⟩ := List.mem_map.1 hq
    exact bkX_names d
  have l1 : sameL lenLx hostL = false := by decide +kernel
  have l2 : sameL lenLx codeL = false := by decide +kernel
  have l3 : sameL lenLx lengL = true := by decide +kernel
  have e1 : allL (bkG ds j n) hostL = [[97]] := by
    unfold bkG bkF
    rw [all_app, all_app, all_none (fun q hq => (hx q hq).1), all_cons, host_host, all_cons, l1]
    rfl
  have e2 : allL (bkG ds j n) codeL = [] := by
    unfold bkG bkF
    rw [all_app, all_app, all_none (fun q hq => (hx q hq).2.1), all_cons, host_code, all_cons, l2]
    rfl
  have e3 : allL (bkG ds j n) lengL = [decimL n] := by
    unfold bkG bkF
    rw [all_app, all_app, all_none (fun q hq => (hx q hq).2.2), all_cons, host_leng, all_cons, l3]
    rfl
  rw [body_want (by rw [e1]; rfl) (by rw [e2]; rfl) (by rw [e3]; simp), e3]
  by_cases hh : n = k
  · rw [if_pos ((want_dec n k (by omega)).2 ⟨by omega, hh⟩), if_pos hh]
  · rw [if_neg (fun e => hh ((want_dec n k (by omega)).1 e).2), if_neg hh]
section
variable {post : Bool} {cs ds : List UInt8} {i j : Nat} {b : List UInt8}
theorem bk_req (hi : i ≤ 20) (hj : j ≤ 20) (hn : b.length ≤ 200) : reqL (textQ (bkR post cs ds i j b b.length)) = (bkR post cs ds i j b b.length, 0) := by
  have := fine_req (bkR_fine post cs ds i j b b.length hi hj hn) b
  rw [show bodyL (bkR post cs ds i j b b.length).fs b.length = 0 by rw [show (bkR post cs ds i j b b.length).fs = bkG ds j b.length from rfl, bkG_body ds j _ _ hn, if_pos rfl], if_neg (by simp)] at this
  exact this
theorem bk_may (hi : i ≤ 20) (hj : j ≤ 20) (hn : b.length ≤ 200) : mayQ (bkR post cs ds i j b b.length) = true := (mayQ_iff _).2 (bk_req hi hj hn)
theorem bk_else (hi : i ≤ 20) (hj : j ≤ 20) (hn : b.length ≤ 200) (c : List UInt8) (hc : c.length ≠ b.length) : (reqL (textQ (bkR post cs ds i j c b.length))).2 = 13 := by
  have := fine_req (bkR_fine post cs ds i j b b.length hi hj hn) c
  rw [show bodyL (bkR post cs ds i j b b.length).fs c.length = 13 by rw [show (bkR post cs ds i j b b.length).fs = bkG ds j b.length from rfl, bkG_body ds j _ _ hn, if_neg (fun e => hc e.symm)], if_pos (by simp)] at this
  exact congrArg Prod.snd this
theorem text_body (r : ReqL) : textQ r = (firstT r.m r.p ++ crlf ++ linesJ (r.fs.map lineP)) ++ crlf ++ r.body := rfl
theorem bk_more (hi : i ≤ 20) (hj : j ≤ 20) (hn : b.length ≤ 200) : (reqL (textQ (bkR post cs ds i j b b.length) ++ [0])).2 = 13 := by
  have := bk_else (post := post) (cs := cs) (ds := ds) hi hj hn (b ++ [0]) (by simp)
  rw [text_body] at this ⊢
  rw [List.append_assoc _ _ [0]]
  exact this
theorem bk_less (hi : i ≤ 20) (hj : j ≤ 20) (hn : b.length ≤ 200) : (reqL ((textQ (bkR post cs ds i j b b.length)).take ((textQ (bkR post cs ds i j b b.length)).length - 1))).2 = if b.length = 0 then 10 else 13 := by
  rw [← List.dropLast_eq_take]
  by_cases h0 : b.length = 0
  · have hb := List.eq_nil_of_length_eq_zero h0
    rw [if_pos h0]
    have hf := bkR_fine post cs ds i j b b.length hi hj hn
    have e : (textQ (bkR post cs ds i j b b.length)).dropLast = linesJ (firstT (bkM post) (bkP cs i) :: (bkG ds j b.length).map lineP) ++ [13] := by
      rw [show textQ (bkR post cs ds i j b b.length) = _ from text_lines (bkR post cs ds i j b b.length) b]
      show (linesJ (firstT (bkM post) (bkP cs i) :: (bkG ds j b.length).map lineP) ++ crlf ++ b).dropLast = _
      rw [hb, List.append_nil, show crlf = [13] ++ [10] from rfl, ← List.append_assoc, List.dropLast_concat]
    have h13 := req_none (lines_open13 _ (fine_ok hf))
    rw [e]
    exact congrArg Prod.snd h13
  · rw [if_neg h0]
    have hne : b ≠ [] := fun e => h0 (by rw [e]; rfl)
    have := bk_else (post := post) (cs := cs) (ds := ds) hi hj hn b.dropLast (by rw [List.length_dropLast]; omega)
    have e : (textQ (bkR post cs ds i j b b.length)).dropLast = textQ (bkR post cs ds i j b.dropLast b.length) := by
      rw [text_body, text_body]
      show (_ ++ b).dropLast = _
      rw [List.dropLast_append_of_ne_nil hne]
      rfl
    rw [e]; exact this
theorem bk_len (hi : i ≤ 20) (hj : j ≤ 20) (hn : b.length ≤ 200) : (textQ (bkR post cs ds i j b b.length)).length ≤ 2000 ∧ 1 ≤ (textQ (bkR post cs ds i j b b.length)).length := by
  have h1 := bkP_len cs i
  have h2 : (bkM post).length ≤ 4 := by cases post <;> decide
  have h3 := linesP_len (bkG ds j b.length)
  have h4 : bulkQ (bkG ds j b.length) ≤ 6 + 3 * 20 + 30 := by
    have hd := decimL_few b.length (by omega)
    have hb : ∀ l : List UInt8, bulkQ (l.map bkX) = 3 * l.length := by
      intro l
      induction l with
      | nil => rfl
      | cons a l ih =>
        have e : bulkQ ((a :: l).map bkX) = (1 + 1 + 1) + bulkQ (l.map bkX) := by simp [bulkQ, bkX]
        rw [e, ih, List.length_cons]; omega
    have e : bulkQ (bkG ds j b.length) = 6 + bulkQ ((ds.take j).map bkX) + (1 + 14 + (decimL b.length).length) := by
      simp [bulkQ, bkG, bkF, hostL, lenLx]
      omega
    rw [e, hb, List.length_take]
    omega
  have e : textQ (bkR post cs ds i j b b.length) = (firstT (bkM post) (bkP cs i) ++ crlf ++ linesJ ((bkG ds j b.length).map lineP)) ++ crlf ++ b := rfl
  rw [e]
  simp only [firstT, List.length_append, List.length_cons, List.length_nil, show verL.length = 8 from rfl, show crlf.length = 2 from rfl]
  constructor <;> omega
theorem bk_bulk (hi : i ≤ 20) (hj : j ≤ 20) (hn : b.length ≤ 200) : (bkR post cs ds i j b b.length).m.length + (bkR post cs ds i j b b.length).p.length + (bkR post cs ds i j b b.length).body.length + bulkQ (bkR post cs ds i j b b.length).fs ≤ 2000 := by
  have h1 := bkP_len cs i
  have h2 : (bkM post).length ≤ 4 := by cases post <;> decide
  have hd := decimL_few b.length (by omega)
  have hb : ∀ l : List UInt8, bulkQ (l.map bkX) = 3 * l.length := by
    intro l
    induction l with
    | nil => rfl
    | cons a l ih =>
      have e : bulkQ ((a :: l).map bkX) = (1 + 1 + 1) + bulkQ (l.map bkX) := by simp [bulkQ, bkX]
      rw [e, ih, List.length_cons]; omega
  have e : bulkQ (bkG ds j b.length) = 6 + bulkQ ((ds.take j).map bkX) + (1 + 14 + (decimL b.length).length) := by
    simp [bulkQ, bkG, bkF, hostL, lenLx]
    omega
  show (bkM post).length + (bkP cs i).length + b.length + bulkQ (bkG ds j b.length) ≤ 2000
  rw [e, hb, List.length_take]
  omega
end
end Go.Proofs.YtbojigimldfghaaDoor
