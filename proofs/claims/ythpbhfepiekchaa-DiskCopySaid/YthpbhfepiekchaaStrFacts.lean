/- A law for regions whose order is open, by an invariant: each operation is held to a fact on what it leaves, a fact that lasts while memory only grows; then every order is as good as the text's, and no order is walked. Nothing here speaks of one function. And what was Inv, Room, Row, RowFacts. -/
import Derived.Test.YthpbhfepiekchaaStr
import Derived.Orders
import Derived.BigCall
import Derived.Laws.Rows
namespace Go.Proofs.Ythpbhfepiekchaa
open Go.ChangeShapes Go.WideShapes Go.ChangeAt Go.RowKit
set_option linter.unusedVariables false

/-- new memory may be there, old memory is as it was -/
abbrev Grew (w w' : World) : Prop := Below w.heap.size w w'
theorem Grew.refl (w : World) : Grew w w := Below.refl _ _
/-- a fact on a value that lasts while memory grows -/
structure Fact where
  p : Value → World → Prop
  keep : ∀ v w w', p v w → Grew w w' → p v w'
/-- it is this value -/
def Fact.is (x : Value) : Fact := ⟨fun v _ => v = x, fun _ _ _ h _ => h⟩
/-- nothing is said of it -/
def Fact.any : Fact := ⟨fun _ _ => True, fun _ _ _ _ _ => trivial⟩

def dstAt (ops : Array Oper) (j : Nat) : Option Tmp := (ops[j]?).bind (·.dst)
def waitsAt (ops : Array Oper) (i j : Nat) : Bool := (ops[i]?).any fun o => o.after.toList.any fun e => Region.binds .any e && e.on == j
/-- whoever writes t comes behind i, or is i -/
def freshAt (ops : Array Oper) (i t : Nat) : Bool := (List.range ops.size).all fun k => dstAt ops k != some t || k == i || waitsAt ops k i
/-- what the law asks of the operations: each has a place of its own, and waits for earlier ones alone -/
def invB (ops : Array Oper) (n : Nat) : Bool :=
  (List.range ops.size).all fun i =>
    ((dstAt ops i).all fun d => decide (d < n) && (List.range i).all fun k => dstAt ops k != some d) &&
    ((ops[i]?).all fun o => o.after.all fun e => !Region.binds .any e || decide (e.on < i))

section
variable {P : Program} {ops : Array Oper} {Q : Exit → Act → World → Prop} {F : List Fact} {a0 : Act} {w0 : World}

/-- fact number i -/
def factAt (F : List Fact) (i : Nat) : Fact := F.getD i Fact.any

/-- what is known where operation i comes up -/
structure Mids (ops : Array Oper) (F : List Fact) (a0 : Act) (w0 : World) (i : Nat) (a : Act) (w : World) : Prop where
  grew : Grew w0 w
  has : ∀ j d, waitsAt ops i j = true → dstAt ops j = some d → (factAt F j).p (a.eval (.tmp d)) w
  old : ∀ t, freshAt ops i t = true → a.eval (.tmp t) = a0.eval (.tmp t)

/-- what operation i owes -/
def StepOk (P : Program) (ops : Array Oper) (Q : Exit → Act → World → Prop) (F : Fact) (o : Oper) (a : Act) (w : World) : Prop :=
  if Region.wanted o (yielded ops a.tmps) = true then o.wp P a w (fun a' w' => ∃ v, a' = a.put o.dst v ∧ F.p v w' ∧ Grew w w') Q else F.p undef w

/-- all of them, from number i on -/
def StepsOk (P : Program) (ops : Array Oper) (Q : Exit → Act → World → Prop) (F : List Fact) (a0 : Act) (w0 : World) : Nat → List Oper → Prop
  | _, [] => True
  | i, o :: rest => (∀ a w, Mids ops F a0 w0 i a w → StepOk P ops Q (factAt F i) o a w) ∧ StepsOk P ops Q F a0 w0 (i + 1) rest

theorem StepsOk.at {i : Nat} {l : List Oper} (h : StepsOk P ops Q F a0 w0 i l) (j : Nat) (o : Oper) (ho : l[j]? = some o) :
    ∀ a w, Mids ops F a0 w0 (i + j) a w → StepOk P ops Q (factAt F (i + j)) o a w := by
  induction l generalizing i j with
  | nil => simp at ho
  | cons x l ih =>
    cases j with
    | zero => simp at ho; subst ho; exact h.1
    | succ j =>
      have := ih h.2 j (by simpa using ho)
      rwa [show i + 1 + j = i + (j + 1) by omega] at this

/-- the values f 0, f 1, .. laid into their places -/
def putAll (f : Nat → Value) : Nat → List Oper → Act → Act
  | _, [], a => a
  | i, o :: rest, a => putAll f (i + 1) rest (a.put o.dst (f i))

theorem put_size (a : Act) (d : Option Tmp) (v : Value) : (a.put d v).tmps.size = a.tmps.size := by cases d <;> simp [Act.put]
theorem put_defers (a : Act) (d : Option Tmp) (v : Value) : (a.put d v).defers = a.defers := by cases d <;> rfl
theorem put_at (a : Act) (d : Option Tmp) (v : Value) (t : Nat) (ht : t < a.tmps.size) : (a.put d v).eval (.tmp t) = if d = some t then v else a.eval (.tmp t) := by
  cases d with
  | none => simp [Act.put, Act.eval]
  | some d =>
    by_cases h : d = t
    · subst h; simp [Act.put, Act.eval, ht]
    · simp [Act.put, Act.eval, Array.getElem?_setIfInBounds_ne h, h]
theorem act_ext {a b : Act} (h1 : a.defers = b.defers) (h2 : a.tmps.size = b.tmps.size) (h3 : ∀ t, t < a.tmps.size → a.eval (.tmp t) = b.eval (.tmp t)) : a = b := by
  obtain ⟨at', ad⟩ := a
  obtain ⟨bt, bd⟩ := b
  simp only at h1 h2 h3
  subst h1
  congr 1
  refine Array.ext h2 fun i h4 h5 => ?_
  have := h3 i h4
  simpa [Act.eval, h4, h5] using this
theorem putAll_size (f : Nat → Value) (l : List Oper) (i : Nat) (a : Act) : (putAll f i l a).tmps.size = a.tmps.size := by
  induction l generalizing i a with
  | nil => rfl
  | cons o l ih => rw [putAll, ih, put_size]
theorem putAll_defers (f : Nat → Value) (l : List Oper) (i : Nat) (a : Act) : (putAll f i l a).defers = a.defers := by
  induction l generalizing i a with
  | nil => rfl
  | cons o l ih => rw [putAll, ih, put_defers]
theorem putAll_other (f : Nat → Value) (l : List Oper) (i : Nat) (a : Act) (t : Nat) (ht : t < a.tmps.size) (h : ∀ (j : Nat) (o : Oper), l[j]? = some o → o.dst ≠ some t) : (putAll f i l a).eval (.tmp t) = a.eval (.tmp t) := by
  induction l generalizing i a with
  | nil => rfl
  | cons o l ih =>
    rw [putAll, ih _ _ (by rw [put_size]; exact ht) (fun j o' hj => h (j + 1) o' (by simpa using hj)), put_at _ _ _ _ ht, if_neg (h 0 o (by simp))]
theorem putAll_at (f : Nat → Value) (l : List Oper) (i : Nat) (a : Act) (t : Nat) (ht : t < a.tmps.size) (j : Nat) (o : Oper) (hj : l[j]? = some o) (ho : o.dst = some t)
    (h : ∀ (k : Nat) (ok : Oper), j < k → l[k]? = some ok → ok.dst ≠ some t) : (putAll f i l a).eval (.tmp t) = f (i + j) := by
  induction l generalizing i a j with
  | nil => simp at hj
  | cons x l ih =>
    rw [putAll]
    cases j with
    | zero =>
      simp at hj; subst hj
      rw [putAll_other _ _ _ _ _ (by rw [put_size]; exact ht) (fun k ok hk => h (k + 1) ok (by omega) (by simpa using hk)), put_at _ _ _ _ ht, if_pos ho]
      rfl
    | succ j =>
      rw [ih _ _ (by rw [put_size]; exact ht) j (by simpa using hj) (fun k ok hjk hk => h (k + 1) ok (by omega) (by simpa using hk))]
      congr 1; omega

/-- what stands in the midst of a region -/
structure Midst (ops : Array Oper) (F : List Fact) (a0 : Act) (w0 : World) (listed : Array Bool) (a : Act) (w : World) : Prop where
  size : a.tmps.size = a0.tmps.size
  defers : a.defers = a0.defers
  lsize : listed.size = ops.size
  grew : Grew w0 w
  has : ∀ j d, listed.getD j false = true → dstAt ops j = some d → (factAt F j).p (a.eval (.tmp d)) w
  bare : ∀ j, listed.getD j false = true → dstAt ops j = none → ∃ v, (factAt F j).p v w
  old : ∀ t, (∀ j, listed.getD j false = true → dstAt ops j ≠ some t) → a.eval (.tmp t) = a0.eval (.tmp t)
  shut : ∀ j o, ops[j]? = some o → listed.getD j false = true → ∀ e ∈ o.after, Region.binds .any e = true → listed.getD e.on false = true

theorem inv_spec {n : Nat} (h : invB ops n = true) {i : Nat} {o : Oper} (ho : ops[i]? = some o) :
    (∀ d, o.dst = some d → d < n) ∧ (∀ d, o.dst = some d → ∀ k, k < i → dstAt ops k ≠ some d) ∧ ∀ e ∈ o.after, Region.binds .any e = true → e.on < i := by
  have hi := (Array.getElem?_eq_some_iff.1 ho).1
  unfold invB at h
  rw [List.all_eq_true] at h
  have h1 := h i (List.mem_range.2 hi)
  rw [Bool.and_eq_true] at h1
  have hd : dstAt ops i = o.dst := by simp [dstAt, ho]
  rw [hd, ho] at h1
  refine ⟨fun d e => ?_, fun d e k hk => ?_, fun e he hbe => ?_⟩
  · have := h1.1; rw [e] at this; simp only [Option.all_some, Bool.and_eq_true, decide_eq_true_eq] at this; exact this.1
  · have := h1.1; rw [e] at this; simp only [Option.all_some, Bool.and_eq_true, decide_eq_true_eq, List.all_eq_true] at this
    simpa using this.2 k (List.mem_range.2 hk)
  · have := h1.2; simp only [Option.all_some] at this
    have h2 := Array.all_eq_true_iff_forall_mem.1 this e he
    rw [hbe] at h2
    simpa using h2

theorem Midst.mids {listed : Array Bool} {a : Act} {w : World} (m : Midst ops F a0 w0 listed a w) {i : Nat} (hi : i ∈ Region.ready .any ops listed) : Mids ops F a0 w0 i a w := by
  obtain ⟨hun, o, ho, hall⟩ := mem_ready.1 hi
  have hun' : listed.getD i false = false := by
    have hil : i < listed.size := by rw [m.lsize]; exact (Array.getElem?_eq_some_iff.1 ho).1
    simpa [Array.getD, hil] using hun
  refine ⟨m.grew, fun j d hw hd => ?_, fun t ht => m.old t fun j hj hjd => ?_⟩
  · simp only [waitsAt, ho, Option.any_some, List.any_eq_true, Array.mem_toList_iff] at hw
    obtain ⟨e, he, hb⟩ := hw
    simp only [Bool.and_eq_true, beq_iff_eq] at hb
    exact m.has j d (by rw [← hb.2]; exact hall e he hb.1) hd
  · have hjs : j < ops.size := by
      rcases Nat.lt_or_ge j ops.size with h | h
      · exact h
      · simp [dstAt, Array.getElem?_eq_none h] at hjd
    unfold freshAt at ht
    have := List.all_eq_true.1 ht j (List.mem_range.2 hjs)
    simp only [hjd, Bool.or_eq_true, beq_iff_eq] at this
    rcases this with (h | h) | h
    · simp at h
    · subst h; rw [hun'] at hj; cases hj
    · obtain ⟨oj, hoj⟩ : ∃ oj, ops[j]? = some oj := ⟨_, Array.getElem?_eq_getElem hjs⟩
      simp only [waitsAt, hoj, Option.any_some, List.any_eq_true, Array.mem_toList_iff] at h
      obtain ⟨e, he, hb⟩ := h
      simp only [Bool.and_eq_true, beq_iff_eq] at hb
      have := m.shut j oj hoj hj e he hb.1
      rw [hb.2, hun'] at this
      cases this

theorem getD_set (l : Array Bool) (i j : Nat) (hi : i < l.size) : (l.setIfInBounds i true).getD j false = if i = j then true else l.getD j false := by
  by_cases h : i = j
  · subst h; simp [hi]
  · simp [h]

theorem Midst.next {n : Nat} (hB : invB ops n = true) (hn : a0.tmps.size = n) {listed : Array Bool} {a : Act} {w w' : World} (m : Midst ops F a0 w0 listed a w) {i : Nat} {o : Oper} (ho : ops[i]? = some o) (hi : i ∈ Region.ready .any ops listed) {v : Value}
    (hv : (factAt F i).p v w') (hw : Grew w w') : Midst ops F a0 w0 (listed.setIfInBounds i true) (a.put o.dst v) w' := by
  have his := (Array.getElem?_eq_some_iff.1 ho).1
  have hil : i < listed.size := by rw [m.lsize]; exact his
  obtain ⟨hun, o', ho', hall⟩ := mem_ready.1 hi
  rw [ho] at ho'; cases ho'
  have hdi : dstAt ops i = o.dst := by simp [dstAt, ho]
  have hsz : n = a.tmps.size := by rw [m.size, hn]
  have other : ∀ j d, i ≠ j → dstAt ops j = some d → o.dst ≠ some d ∧ d < a.tmps.size := fun j d hij hd => by
    obtain ⟨oj, hoj, hjd⟩ := Option.bind_eq_some_iff.1 hd
    obtain ⟨s1, s2, _⟩ := inv_spec hB hoj
    refine ⟨fun hod => ?_, by rw [← hsz]; exact s1 d hjd⟩
    rcases Nat.lt_or_gt_of_ne hij with h | h
    · exact s2 d hjd i h (by rw [hdi]; exact hod)
    · exact (inv_spec hB ho).2.1 d hod j h hd
  refine ⟨by rw [put_size, m.size], by rw [put_defers, m.defers], by simp [m.lsize], below_then m.grew hw, fun j d hj hd => ?_, fun j hj hd => ?_, fun t ht => ?_, fun j oj hoj hj e he hb => ?_⟩
  · rw [getD_set _ _ _ hil] at hj
    by_cases hij : i = j
    · subst hij
      rw [hdi] at hd
      rw [put_at _ _ _ _ (by rw [← hsz]; exact (inv_spec hB ho).1 d hd), if_pos hd]
      exact hv
    · rw [if_neg hij] at hj
      obtain ⟨h1, h2⟩ := other j d hij hd
      rw [put_at _ _ _ _ h2, if_neg h1]
      exact (factAt F j).keep _ _ _ (m.has j d hj hd) hw
  · rw [getD_set _ _ _ hil] at hj
    by_cases hij : i = j
    · subst hij; exact ⟨v, hv⟩
    · rw [if_neg hij] at hj
      obtain ⟨u, hu⟩ := m.bare j hj hd
      exact ⟨u, (factAt F j).keep _ _ _ hu hw⟩
  · have h1 : o.dst ≠ some t := by rw [← hdi]; exact ht i (by rw [getD_set _ _ _ hil, if_pos rfl])
    have h2 := m.old t fun j hj => ht j (by
      rw [getD_set _ _ _ hil]
      split
      · rfl
      · exact hj)
    rw [← h2]
    by_cases hts : t < a.tmps.size
    · rw [put_at _ _ _ _ hts, if_neg h1]
    · have e1 : (a.put o.dst v).tmps[t]? = none := Array.getElem?_eq_none (by rw [put_size]; exact Nat.le_of_not_lt hts)
      have e2 : a.tmps[t]? = none := Array.getElem?_eq_none (Nat.le_of_not_lt hts)
      simp [Act.eval, e1, e2]
  · rw [getD_set _ _ _ hil] at hj ⊢
    split
    · rfl
    · by_cases hij : i = j
      · subst hij
        rw [ho] at hoj; cases hoj
        exact hall e he hb
      · rw [if_neg hij] at hj
        exact m.shut j oj hoj hj e he hb

theorem Midst.front {n : Nat} (hB : invB ops n = true) {listed : Array Bool} {a : Act} {w : World} (m : Midst ops F a0 w0 listed a w) (k : Nat) (hk : k ≤ ops.size) (hall' : ∀ j, j < k → listed.getD j false = true) (hnone : ∀ j, k ≤ j → listed.getD j false = false) :
    ∃ f : Nat → Value, a = putAll f 0 (ops.toList.take k) a0 ∧ ∀ j, j < k → (factAt F j).p (f j) w := by
  have hex : ∀ j, j < k → ∃ v, (factAt F j).p v w ∧ ∀ d, dstAt ops j = some d → v = a.eval (.tmp d) := fun j hj => by
    cases hd : dstAt ops j with
    | none =>
      obtain ⟨v, hv⟩ := m.bare j (hall' j hj) hd
      exact ⟨v, hv, fun d h => by cases h⟩
    | some d => exact ⟨_, m.has j d (hall' j hj) hd, fun d' h => by cases h; rfl⟩
  refine ⟨fun j => if h : j < k then Classical.choose (hex j h) else undef, ?_, fun j hj => by simp only [dif_pos hj]; exact (Classical.choose_spec (hex j hj)).1⟩
  refine act_ext (by rw [putAll_defers, m.defers]) (by rw [putAll_size, m.size]) fun t ht => ?_
  have ht0 : t < a0.tmps.size := by rw [← m.size]; exact ht
  have hin : ∀ (j : Nat) (o : Oper), (ops.toList.take k)[j]? = some o → j < k ∧ ops[j]? = some o := fun j o h => by
    rw [List.getElem?_take] at h
    split at h
    · rename_i hjk; exact ⟨hjk, by simpa using h⟩
    · cases h
  by_cases hw : ∃ (j : Nat) (o : Oper), j < k ∧ ops[j]? = some o ∧ o.dst = some t
  · obtain ⟨j, o, hjk, ho, hd⟩ := hw
    have hjt : (ops.toList.take k)[j]? = some o := by rw [List.getElem?_take, if_pos hjk]; simpa using ho
    rw [putAll_at _ _ _ _ _ ht0 j o hjt hd (fun i oi hji hi hid => ?_)]
    · simp only [Nat.zero_add, dif_pos hjk]
      exact ((Classical.choose_spec (hex j hjk)).2 t (by simp [dstAt, ho, hd])).symm
    · exact (inv_spec hB (hin i oi hi).2).2.1 t hid j hji (by simp [dstAt, ho, hd])
  · rw [putAll_other _ _ _ _ _ ht0 (fun j o hj hd => hw ⟨j, o, (hin j o hj).1, (hin j o hj).2, hd⟩)]
    exact m.old t fun j hl hd => by
      obtain ⟨o, ho, hod⟩ := Option.bind_eq_some_iff.1 hd
      rcases Nat.lt_or_ge j k with h | h
      · exact hw ⟨j, o, h, ho, hod⟩
      · rw [hnone j h] at hl; cases hl
theorem Midst.all {n : Nat} (hB : invB ops n = true) {listed : Array Bool} {a : Act} {w : World} (m : Midst ops F a0 w0 listed a w) (hr : Region.ready .any ops listed = []) : ∀ j, j < ops.size → listed.getD j false = true := by
  have hall : ∀ k j, j < k → j < ops.size → listed.getD j false = true := by
    intro k
    induction k with
    | zero => intro j h; omega
    | succ k ih =>
      intro j hj hjs
      rcases Nat.lt_or_ge j k with h | h
      · exact ih j h hjs
      · obtain rfl : j = k := by omega
        have hjl : j < listed.size := by rw [m.lsize]; exact hjs
        cases hl : listed.getD j false with
        | true => rfl
        | false =>
          exfalso
          have : j ∈ Region.ready .any ops listed := mem_ready.2 ⟨by simpa [Array.getD, hjl] using hl, ops[j], Array.getElem?_eq_getElem hjs, fun e he hb => by
            have := (inv_spec hB (Array.getElem?_eq_getElem hjs)).2.2 e he hb
            exact ih _ this (by omega)⟩
          rw [hr] at this
          cases this
  exact fun j hj => hall (j + 1) j (by omega) hj
theorem Midst.done {n : Nat} (hB : invB ops n = true) (hn : a0.tmps.size = n) {listed : Array Bool} {a : Act} {w : World} (m : Midst ops F a0 w0 listed a w) (hr : Region.ready .any ops listed = []) :
    ∃ f : Nat → Value, a = putAll f 0 ops.toList a0 ∧ ∀ j, j < ops.size → (factAt F j).p (f j) w := by
  have := m.front hB ops.size (Nat.le_refl _) (m.all hB hr) (fun j hj => by
    have : ¬ j < listed.size := by rw [m.lsize]; omega
    simp [Array.getD, this])
  rwa [List.take_of_length_le (by simp)] at this

theorem StepOk.wpOp {K : Act → World → Prop} {G : Fact} {i : Nat} {o : Oper} {a : Act} {w : World} (ho : ops[i]? = some o) (h : StepOk P ops Q G o a w)
    (hK : ∀ v w', G.p v w' → Grew w w' → K (a.put o.dst v) w') : wpOp P ops Q i K a w := by
  unfold Go.wpOp
  simp only [ho]
  unfold StepOk at h
  split
  · rename_i hw
    rw [if_pos hw] at h
    refine .inl (Oper.wp_mono (fun a' w' hh => ?_) h)
    obtain ⟨v, rfl, h1, h2⟩ := hh
    exact hK v w' h1 h2
  · rename_i hw
    rw [if_neg hw] at h
    exact hK undef w h (Grew.refl w)

theorem wpAny_mids {n : Nat} (hB : invB ops n = true) (hn : a0.tmps.size = n) (hs : StepsOk P ops Q F a0 w0 0 ops.toList)
    (hend : ∀ (f : Nat → Value) w, Grew w0 w → (∀ j, j < ops.size → (factAt F j).p (f j) w) → Q .normal (putAll f 0 ops.toList a0) w) :
    ∀ (fuel : Nat) (listed : Array Bool) (a : Act) (w : World), Midst ops F a0 w0 listed a w → (listed.toList.countP fun b => !b) ≤ fuel → wpAny P .any ops Q fuel listed a w := by
  have fin : ∀ (listed : Array Bool) (a : Act) (w : World), Midst ops F a0 w0 listed a w → Region.ready .any ops listed = [] → Q .normal a w := fun listed a w m hr => by
    obtain ⟨f, rfl, hf⟩ := m.done hB hn hr
    exact hend f w m.grew hf
  intro fuel
  induction fuel with
  | zero =>
    intro listed a w m hc
    have hr : Region.ready .any ops listed = [] := by
      cases he : Region.ready .any ops listed with
      | nil => rfl
      | cons i l =>
        exfalso
        have hi : i ∈ Region.ready .any ops listed := by rw [he]; simp
        obtain ⟨hun, o, ho, _⟩ := mem_ready.1 hi
        have hil : i < listed.size := by rw [m.lsize]; exact (Array.getElem?_eq_some_iff.1 ho).1
        have h1 : (0 : Nat) < listed.toList.countP fun b => !b := List.countP_pos_iff.2 ⟨listed[i], by simp, by simpa [Array.getD, hil] using hun⟩
        omega
    exact ⟨hr, fin listed a w m hr⟩
  | succ fuel ih =>
    intro listed a w m hc
    refine ⟨fin listed a w m, fun i hi => ?_⟩
    obtain ⟨hun, o, ho, _⟩ := mem_ready.1 hi
    have hil : i < listed.size := by rw [m.lsize]; exact (Array.getElem?_eq_some_iff.1 ho).1
    have hst := hs.at i o (by simpa using ho) a w (by rw [Nat.zero_add]; exact m.mids hi)
    rw [Nat.zero_add] at hst
    refine hst.wpOp ho fun v w' hv hg => ih _ _ _ (m.next hB hn ho hi hv hg) ?_
    have hu : listed[i] = false := by simpa [Array.getD, hil] using hun
    have e1 : (listed.setIfInBounds i true).toList = listed.toList.set i true := by simp
    have h2 := List.countP_set (p := fun b => !b) (l := listed.toList) (i := i) (a := true) (by simpa using hil)
    rw [e1, h2]
    have h3 : (0 : Nat) < listed.toList.countP fun b => !b := List.countP_pos_iff.2 ⟨listed[i], by simp, by simp [hu]⟩
    have h4 : (if (!listed.toList[i]'(by simpa using hil)) = true then 1 else 0) = 1 := by simp [hu]
    rw [h4, if_neg (by simp)]
    omega

theorem midst_start (w : World) (hw : Grew w0 w) : Midst ops F a0 w0 (Array.replicate ops.size false) a0 w := by
  have hf : ∀ j, (Array.replicate ops.size false).getD j false = false := fun j => by
    by_cases h : j < ops.size
    · simp [Array.getD, h]
    · simp [Array.getD, h]
  refine ⟨rfl, rfl, by simp, hw, fun j d hj => ?_, fun j hj => ?_, fun _ _ => rfl, fun j o _ hj => ?_⟩ <;> (rw [hf] at hj; cases hj)

/-- A region whose order is open. -/
theorem region_inv (F : List Fact) {id : Nat} (hm : P.follows .mixedOrders = true) {l : List Oper} (hB : invB l.toArray a0.tmps.size = true) (hs : StepsOk P l.toArray Q F a0 w0 0 l)
    (hend : ∀ (f : Nat → Value) w, Grew w0 w → (∀ j, j < l.length → (factAt F j).p (f j) w) → Q .normal (putAll f 0 l a0) w) : (Code.region id l.toArray true).wp P Q a0 w0 :=
  wp_region_any hm (wpAny_mids (w0 := w0) hB rfl (by simpa using hs) (by simpa using hend) _ _ _ _ (midst_start _ ⟨rfl, rfl, rfl, Nat.le_refl _, fun _ _ => rfl⟩) (by
    have := List.countP_le_length (p := fun b => !b) (l := (Array.replicate l.toArray.size false).toList)
    simpa using this))

/-- all that i waits for, straight or not -/
def coverAt (ops : Array Oper) (i : Nat) : List Nat :=
  (List.range i).reverse.foldl (fun S s => if S.contains s then S ++ ((ops[s]?).toList.flatMap fun o => (o.after.toList.filter (Region.binds .any)).map (·.on)) else S) ((ops[i]?).toList.flatMap fun o => (o.after.toList.filter (Region.binds .any)).map (·.on))
/-- each operation from k on waits for all ahead of it -/
def tailB (ops : Array Oper) (k : Nat) : Bool := (List.range ops.size).all fun i => decide (i < k) || (List.range i).all fun j => (coverAt ops i).contains j
theorem cover_listed {listed : Array Bool} {a : Act} {w : World} (m : Midst ops F a0 w0 listed a w) {i : Nat} (hi : i ∈ Region.ready .any ops listed) {j : Nat} (hj : j ∈ coverAt ops i) : listed.getD j false = true := by
  obtain ⟨hun, o, ho, hall⟩ := mem_ready.1 hi
  have hpre : ∀ x ∈ ((ops[i]?).toList.flatMap fun o => (o.after.toList.filter (Region.binds .any)).map (·.on)), listed.getD x false = true := fun x hx => by
    rw [ho] at hx
    simp only [Option.toList_some, List.flatMap_cons, List.flatMap_nil, List.append_nil, List.mem_map, List.mem_filter, Array.mem_toList_iff] at hx
    obtain ⟨e, ⟨he, hb⟩, rfl⟩ := hx
    exact hall e he hb
  have hstep : ∀ (l : List Nat) (S : List Nat), (∀ x ∈ S, listed.getD x false = true) → ∀ x ∈ l.foldl (fun S s => if S.contains s then S ++ ((ops[s]?).toList.flatMap fun o => (o.after.toList.filter (Region.binds .any)).map (·.on)) else S) S, listed.getD x false = true := by
    intro l
    induction l with
    | nil => intro S hS x hx; exact hS x hx
    | cons s l ih =>
      intro S hS x hx
      refine ih _ (fun y hy => ?_) x hx
      dsimp only at hy
      split at hy
      · rename_i hs
        rcases List.mem_append.1 hy with h | h
        · exact hS y h
        · cases hos : ops[s]? with
          | none => rw [hos] at h; simp at h
          | some os =>
            rw [hos] at h
            simp only [Option.toList_some, List.flatMap_cons, List.flatMap_nil, List.append_nil, List.mem_map, List.mem_filter, Array.mem_toList_iff] at h
            obtain ⟨e, ⟨he, hb⟩, rfl⟩ := h
            exact m.shut s os hos (hS s (by simpa using hs)) e he hb
      · exact hS y hy
  exact hstep _ _ hpre j hj

/-- behind the front the rest goes in the text's order -/
theorem wpAny_rest {k : Nat} (hT : tailB ops k = true) (hsz : k ≤ ops.size) : ∀ (r i : Nat) (fuel : Nat) (listed : Array Bool) (a : Act) (w : World), i + r = ops.size → k ≤ i → r ≤ fuel → listed.size = ops.size → (∀ j, listed.getD j false = decide (j < i)) →
    (∀ (j : Nat) (o : Oper), ops[j]? = some o → ∀ e ∈ o.after, Region.binds .any e = true → e.on < j) → wpList P ops Q (ops.toList.drop i) a w → wpAny P .any ops Q fuel listed a w := by
  intro r
  induction r with
  | zero =>
    intro i fuel listed a w hir hki hf hls hl hback h
    have hr : Region.ready .any ops listed = [] := by
      cases he : Region.ready .any ops listed with
      | nil => rfl
      | cons x xs =>
        exfalso
        have hx : x ∈ Region.ready .any ops listed := by rw [he]; simp
        obtain ⟨hun, o, ho, _⟩ := mem_ready.1 hx
        have hxs := (Array.getElem?_eq_some_iff.1 ho).1
        have h1 := hl x
        have h2 : listed.getD x false = false := by
          have hxl : x < listed.size := by omega
          simpa [Array.getD, hxl] using hun
        rw [h2] at h1
        have : x < i := by omega
        simp [this] at h1
    rw [List.drop_of_length_le (by simp; omega)] at h
    exact wpAny_done hr h fuel
  | succ r ih =>
    intro i fuel listed a w hir hki hf hls hl hback h
    have hi : i < ops.size := by omega
    have ho : ops[i]? = some ops[i] := Array.getElem?_eq_getElem hi
    obtain ⟨fuel, rfl⟩ : ∃ f, fuel = f + 1 := ⟨fuel - 1, by omega⟩
    have hil : i < listed.size := by omega
    have hrd : i ∈ Region.ready .any ops listed := mem_ready.2 ⟨by
      have h1 := hl i
      simp only [Nat.lt_irrefl, decide_false] at h1
      simpa [Array.getD, hil] using h1, _, ho, fun e he hb => by
      rw [hl]
      exact decide_eq_true (hback i _ ho e he hb)⟩
    refine ⟨fun h0 => absurd hrd (by rw [h0]; simp), fun x hx => ?_⟩
    have hxi : x = i := by
      obtain ⟨hun, o, hox, hall⟩ := mem_ready.1 hx
      have hxs := (Array.getElem?_eq_some_iff.1 hox).1
      have hxl : x < listed.size := by omega
      have h1 := hl x
      have h2 : listed.getD x false = false := by simpa [Array.getD, hxl] using hun
      rw [h2] at h1
      have hge : i ≤ x := by
        rcases Nat.lt_or_ge x i with h3 | h3
        · simp [h3] at h1
        · exact h3
      rcases Nat.lt_or_ge i x with h3 | h3
      · exfalso
        unfold tailB at hT
        have h4 := List.all_eq_true.1 hT x (List.mem_range.2 hxs)
        have h5 : ¬ x < k := by omega
        simp only [h5, decide_false, Bool.false_or] at h4
        have h6 := List.all_eq_true.1 h4 i (List.mem_range.2 h3)
        have h7 : i ∈ coverAt ops x := by simpa using h6
        have m : Midst ops [] a w listed a w := ⟨rfl, rfl, hls, Grew.refl w, fun j d _ _ => by show (factAt [] j).p _ _; exact trivial, fun j _ _ => ⟨undef, by show (factAt [] j).p _ _; exact trivial⟩, fun _ _ => rfl, fun j o hj hlj e he hbe => by
          rw [hl] at hlj ⊢
          have h8 := hback j o hj e he hbe
          have : j < i := by simpa using hlj
          exact decide_eq_true (by omega)⟩
        have h8 := cover_listed m hx h7
        rw [hl] at h8
        simp at h8
      · omega
    subst hxi
    rw [List.drop_eq_getElem_cons (by simpa using hi), Array.getElem_toList] at h
    unfold Go.wpOp
    simp only [ho]
    unfold wpList at h
    have hK : ∀ a' w', wpList P ops Q (ops.toList.drop (x + 1)) a' w' → wpAny P .any ops Q fuel (listed.setIfInBounds x true) a' w' := fun a' w' hh =>
      ih (x + 1) fuel _ a' w' (by omega) (by omega) (by omega) (by simp [hls]) (fun j => by
        rw [getD_set _ _ _ hil, hl]
        by_cases hij : x = j
        · subst hij; simp
        · rw [if_neg hij]
          congr 1
          exact propext ⟨fun h => by omega, fun h => by omega⟩) hback hh
    split
    · rename_i hw
      rw [if_pos hw] at h
      exact h.imp (Oper.wp_mono hK) id
    · rename_i hw
      rw [if_neg hw] at h
      exact hK _ _ h

theorem wpAny_front {n k : Nat} (hB : invB ops n = true) (hn : a0.tmps.size = n) (hk : k ≤ ops.size) (hT : tailB ops k = true) (hs : StepsOk P ops Q F a0 w0 0 (ops.toList.take k))
    (hend : ∀ (f : Nat → Value) w, Grew w0 w → (∀ j, j < k → (factAt F j).p (f j) w) → wpList P ops Q (ops.toList.drop k) (putAll f 0 (ops.toList.take k) a0) w) :
    ∀ (fuel : Nat) (listed : Array Bool) (a : Act) (w : World), Midst ops F a0 w0 listed a w → (∀ j, k ≤ j → listed.getD j false = false) → (listed.toList.countP fun b => !b) ≤ fuel → wpAny P .any ops Q fuel listed a w := by
  have cnt : ∀ (listed : Array Bool) (i : Nat) (h : i < listed.size), listed[i] = false → (listed.toList.countP fun b => !b) = ((listed.setIfInBounds i true).toList.countP fun b => !b) + 1 := fun listed i hil hu => by
    have e1 : (listed.setIfInBounds i true).toList = listed.toList.set i true := by simp
    have h2 := List.countP_set (p := fun b => !b) (l := listed.toList) (i := i) (a := true) (by simpa using hil)
    have h3 : (0 : Nat) < listed.toList.countP fun b => !b := List.countP_pos_iff.2 ⟨listed[i], by simp, by simp [hu]⟩
    have h4 : (if (!listed.toList[i]'(by simpa using hil)) = true then 1 else 0) = 1 := by simp [hu]
    rw [e1, h2, h4, if_neg (by simp)]
    omega
  have cntN : ∀ (n : Nat) (listed : Array Bool) (k : Nat), listed.size = n → k ≤ n → (∀ j, listed.getD j false = decide (j < k)) → n - k ≤ listed.toList.countP fun b => !b := fun n listed k hs hk' hl => by
    have : listed.toList = List.replicate k true ++ List.replicate (n - k) false := by
      refine List.ext_getElem (by simp; omega) fun i h1 h2 => ?_
      have h3 := hl i
      have h4 : i < listed.size := by simpa using h1
      simp only [Array.getD, h4, dif_pos] at h3
      have h5 : listed[i] = decide (i < k) := by simpa using h3
      rw [Array.getElem_toList, h5, List.getElem_append]
      split
      · rename_i h6
        have : i < k := by simpa using h6
        simp [this]
      · rename_i h6
        have : ¬ i < k := by simpa using h6
        simp [this]
    rw [this, List.countP_append]
    simp [List.countP_replicate]
  have fin : ∀ (fuel : Nat) (listed : Array Bool) (a : Act) (w : World), Midst ops F a0 w0 listed a w → (∀ j, k ≤ j → listed.getD j false = false) → (listed.toList.countP fun b => !b) ≤ fuel → (∀ j, j < k → listed.getD j false = true) → wpAny P .any ops Q fuel listed a w := fun fuel listed a w m hno hc hall => by
    obtain ⟨f, rfl, hf⟩ := m.front hB k hk hall hno
    have hl : ∀ j, listed.getD j false = decide (j < k) := fun j => by
      rcases Nat.lt_or_ge j k with h | h
      · rw [hall j h]; simp [h]
      · have : ¬ j < k := by omega
        rw [hno j h]; simp [this]
    refine wpAny_rest hT hk (ops.size - k) k fuel listed _ w (by omega) (Nat.le_refl _) ?_ m.lsize hl (fun j o ho e he hbe => (inv_spec hB ho).2.2 e he hbe) (hend f w m.grew hf)
    have := cntN ops.size listed k m.lsize hk hl
    omega
  intro fuel
  induction fuel with
  | zero =>
    intro listed a w m hno hc
    refine fin 0 listed a w m hno hc fun j hj => ?_
    cases hl : listed.getD j false with
    | true => rfl
    | false =>
      exfalso
      have hjl : j < listed.size := by rw [m.lsize]; omega
      have h1 : (0 : Nat) < listed.toList.countP fun b => !b := List.countP_pos_iff.2 ⟨listed[j], by simp, by simpa [Array.getD, hjl] using hl⟩
      omega
  | succ fuel ih =>
    intro listed a w m hno hc
    by_cases hall : ∀ j, j < k → listed.getD j false = true
    · exact fin _ listed a w m hno hc hall
    · have hnf : ∀ x, x ∈ Region.ready .any ops listed → x < k := fun x hx => by
        rcases Nat.lt_or_ge x k with h | h
        · exact h
        · exfalso
          refine hall fun j hj => ?_
          obtain ⟨_, o, ho, _⟩ := mem_ready.1 hx
          have hxs := (Array.getElem?_eq_some_iff.1 ho).1
          unfold tailB at hT
          have h4 := List.all_eq_true.1 hT x (List.mem_range.2 hxs)
          have h5 : ¬ x < k := by omega
          simp only [h5, decide_false, Bool.false_or] at h4
          have h6 := List.all_eq_true.1 h4 j (List.mem_range.2 (by omega))
          exact cover_listed m hx (by simpa using h6)
      refine ⟨fun hr => ?_, fun i hi => ?_⟩
      · exact absurd (fun j hj => m.all hB hr j (by omega)) hall
      · obtain ⟨hun, o, ho, _⟩ := mem_ready.1 hi
        have hik := hnf i hi
        have hil : i < listed.size := by rw [m.lsize]; exact (Array.getElem?_eq_some_iff.1 ho).1
        have hst := hs.at i o (by rw [List.getElem?_take, if_pos hik]; simpa using ho) a w (by rw [Nat.zero_add]; exact m.mids hi)
        rw [Nat.zero_add] at hst
        refine hst.wpOp ho fun v w' hv hg => ih _ _ _ (m.next hB hn ho hi hv hg) (fun j hj => ?_) ?_
        · rw [getD_set _ _ _ hil, if_neg (by omega)]; exact hno j hj
        · have hu : listed[i] = false := by simpa [Array.getD, hil] using hun
          have := cnt listed i hil hu
          omega
/-- A region whose order is open, but for its last operations, each of which waits for all ahead of it: they are walked as they stand. -/
theorem region_tail (k : Nat) (F : List Fact) {id : Nat} (hm : P.follows .mixedOrders = true) {l : List Oper} (hB : invB l.toArray a0.tmps.size = true) (hT : (tailB l.toArray k && decide (k ≤ l.length)) = true) (hs : StepsOk P l.toArray Q F a0 w0 0 (l.take k))
    (hend : ∀ (f : Nat → Value) w, Grew w0 w → (∀ j, j < k → (factAt F j).p (f j) w) → wpList P l.toArray Q (l.drop k) (putAll f 0 (l.take k) a0) w) : (Code.region id l.toArray true).wp P Q a0 w0 := by
  rw [Bool.and_eq_true, decide_eq_true_eq] at hT
  refine wp_region_any hm (wpAny_front (w0 := w0) hB rfl (by simpa using hT.2) hT.1 (by simpa using hs) (by simpa using hend) _ _ _ _ (midst_start _ ⟨rfl, rfl, rfl, Nat.le_refl _, fun _ _ => rfl⟩) (fun j _ => ?_) ?_)
  · by_cases h : j < l.toArray.size
    · simp [Array.getD]
    · simp [Array.getD]
  · have := List.countP_le_length (p := fun b => !b) (l := (Array.replicate l.toArray.size false).toList)
    simpa using this

theorem wpList_mids {n : Nat} (hB : invB ops n = true) (hn : a0.tmps.size = n) (hs : StepsOk P ops Q F a0 w0 0 ops.toList)
    (hend : ∀ (f : Nat → Value) w, Grew w0 w → (∀ j, j < ops.size → (factAt F j).p (f j) w) → Q .normal (putAll f 0 ops.toList a0) w) :
    ∀ (k i : Nat) (listed : Array Bool) (a : Act) (w : World), i + k = ops.size → (∀ j, listed.getD j false = decide (j < i)) → Midst ops F a0 w0 listed a w → wpList P ops Q (ops.toList.drop i) a w := by
  intro k
  induction k with
  | zero =>
    intro i listed a w hik hl m
    rw [List.drop_of_length_le (by simp; omega)]
    have hr : Region.ready .any ops listed = [] := by
      cases he : Region.ready .any ops listed with
      | nil => rfl
      | cons x xs =>
        exfalso
        have hx : x ∈ Region.ready .any ops listed := by rw [he]; simp
        obtain ⟨hun, o, ho, _⟩ := mem_ready.1 hx
        have hxs := (Array.getElem?_eq_some_iff.1 ho).1
        have hil : x < listed.size := by rw [m.lsize]; exact hxs
        have h1 := hl x
        have h2 : listed[x] = false := by simpa [Array.getD, hil] using hun
        simp only [Array.getD, hil, dif_pos] at h1
        have h3 : listed[x] = decide (x < i) := by simpa using h1
        rw [h2] at h3
        have : x < i := by omega
        simp [this] at h3
    obtain ⟨f, rfl, hf⟩ := m.done hB hn hr
    exact hend f w m.grew hf
  | succ k ih =>
    intro i listed a w hik hl m
    have hi : i < ops.size := by omega
    have hil : i < listed.size := by rw [m.lsize]; exact hi
    have ho : ops[i]? = some ops[i] := Array.getElem?_eq_getElem hi
    have hrd : i ∈ Region.ready .any ops listed := mem_ready.2 ⟨by
      have h1 := hl i
      simp only [Nat.lt_irrefl, decide_false] at h1
      simpa [Array.getD, hil] using h1, _, ho, fun e he hb => by
      rw [hl]
      exact decide_eq_true ((inv_spec hB ho).2.2 e he hb)⟩
    have hst := hs.at i ops[i] (by simp) a w (by rw [Nat.zero_add]; exact m.mids hrd)
    rw [Nat.zero_add] at hst
    rw [List.drop_eq_getElem_cons (by simpa using hi), Array.getElem_toList]
    have hK : ∀ v w', (factAt F i).p v w' → Grew w w' → wpList P ops Q (ops.toList.drop (i + 1)) (a.put ops[i].dst v) w' := fun v w' hv hg =>
      ih (i + 1) (listed.setIfInBounds i true) _ _ (by omega) (fun j => by
        rw [getD_set _ _ _ hil, hl]
        by_cases hij : i = j
        · subst hij; simp
        · rw [if_neg hij]
          congr 1
          exact propext ⟨fun h => by omega, fun h => by omega⟩) (m.next hB hn ho hrd hv hg)
    unfold StepOk at hst
    unfold wpList
    split
    · rename_i hw
      rw [if_pos hw] at hst
      refine .inl (Oper.wp_mono (fun a' w' hh => ?_) hst)
      obtain ⟨v, rfl, h1, h2⟩ := hh
      exact hK v w' h1 h2
    · rename_i hw
      rw [if_neg hw] at hst
      exact hK undef w hst (Grew.refl w)
/-- A region in the text's order. -/
theorem region_text (F : List Fact) {id : Nat} {l : List Oper} (hB : invB l.toArray a0.tmps.size = true) (hs : StepsOk P l.toArray Q F a0 w0 0 l)
    (hend : ∀ (f : Nat → Value) w, Grew w0 w → (∀ j, j < l.length → (factAt F j).p (f j) w) → Q .normal (putAll f 0 l a0) w) : (Code.region id l.toArray false).wp P Q a0 w0 :=
  wp_region_lit (by
    have := wpList_mids (w0 := w0) hB rfl (by simpa using hs) (by simpa using hend) l.length 0 (Array.replicate l.toArray.size false) a0 w0 (by simp) (fun j => by
      by_cases h : j < l.length
      · simp [Array.getD, h]
      · simp [Array.getD, h]) (midst_start _ (Grew.refl _))
    simpa using this)

/-- operation j is the last that writes t -/
def lastAt (l : List Oper) (j t : Nat) : Bool := ((l[j]?).any fun o => o.dst == some t) && (List.range l.length).all fun k => decide (k ≤ j) || (l[k]?).all fun o => o.dst != some t
theorem putAll_last (f : Nat → Value) (l : List Oper) (a : Act) (j t : Nat) (h : lastAt l j t = true) (ht : t < a.tmps.size) : (putAll f 0 l a).eval (.tmp t) = f j := by
  unfold lastAt at h
  rw [Bool.and_eq_true] at h
  obtain ⟨h1, h2⟩ := h
  cases ho : l[j]? with
  | none => rw [ho] at h1; cases h1
  | some o =>
    rw [ho] at h1
    have hd : o.dst = some t := by simpa using h1
    have := putAll_at f l 0 a t ht j o ho hd (fun k ok hjk hk hkd => by
      have h3 := List.all_eq_true.1 h2 k (List.mem_range.2 (List.getElem?_eq_some_iff.1 hk).1)
      have h4 : ¬ k ≤ j := by omega
      rw [hk] at h3
      simp [h4, hkd] at h3)
    rwa [Nat.zero_add] at this
/-- the end: the region's last value is what is answered -/
theorem fin_ret {K : Act → World → Prop} {fn : Func} {R : Ending → World → Prop} {t : Nat} {f : Nat → Value} {l : List Oper} {w : World} (hK : ∀ a w, Code.wp P Code.ret (bodyPost P fn R) a w → K a w) (hres : fn.results = #[.tmp t]) (hd : a0.defers = []) (ht : Nat.blt t a0.tmps.size = true) (j : Nat) (hj : lastAt l j t = true)
    (h : R (.returned (f j)) w) : Exit.then K (bodyPost P fn R) .normal (putAll f 0 l a0) w := by
  refine hK _ _ (wp_ret ⟨by rw [putAll_defers, hd], f j, ?_, h⟩)
  have h1 := putAll_last f l a0 j t hj (by simpa [Nat.blt_eq] using ht)
  rw [results_tmp hres]
  have h2 : (putAll f 0 l a0).tmps.getD t undef = f j := h1
  rw [h2]

/-- an operation whose run is known -/
theorem wpList_run {rest : List Oper} {o : Oper} {a : Act} {w w' : World} {v : Value} (hgd : o.guard = none) (h : (execOp a.eval o).run P w = .ok (.value v) w') (k : wpList P ops Q rest (a.put o.dst v) w') : wpList P ops Q (o :: rest) a w :=
  wpList_plain hgd fun K hK => by unfold Oper.wp; rw [h]; exact hK _ _ k

/-- a call through an interface, in the text's order -/
theorem wpList_invoke {rest : List Oper} {o : Oper} {a : Act} {w : World} (hw : Region.wanted o (yielded ops a.tmps) = true) (r : Operand) (name : String) (args : Array Operand) (ts : Array TypeId) (ho : o.op = .call { callee := .invoke r name, args := args, argTypes := ts }) (x : Value) (hx : a.eval r = x) (vs : Array Value) (hvs : args.map a.eval = vs)
    (f : FuncId) (us : Array Value) (hf : (callMethod x name vs).run P w = .ok (.enter f us) w) {R : Ending → World → Prop} (h : Calls P f us w R) (hR : ∀ e w', R e w' → ∃ v, e = .returned v ∧ wpList P ops Q rest (a.put o.dst v) w') : wpList P ops Q (o :: rest) a w := by
  obtain ⟨dst, op, ty, pos, after, guard⟩ := o
  simp only at ho
  subst ho hx hvs
  unfold wpList
  rw [if_pos hw]
  refine .inl ?_
  have e0 : (#[a.eval r] ++ args.map a.eval)[0]? = some (a.eval r) := by
    rw [Array.getElem?_append_left (by simp)]; rfl
  have e1 : (args.map a.eval).extract 0 (args.map a.eval).size = args.map a.eval := Array.extract_size
  rw [Array.size_map] at e1
  have e2 : (execOp a.eval { dst := dst, op := .call { callee := .invoke r name, args := args, argTypes := ts }, type := ty, pos := pos, after := after, guard := guard }).run P w = .ok (.enter f us) w := by
    rw [← hf]
    simp [execOp, resolve, invoke, e1]
    rw [e0]
  unfold Oper.wp
  rw [e2, Oper.upon_enter]
  refine h.mono fun e w' hh => ?_
  obtain ⟨v, rfl, h1⟩ := hR e w' hh
  exact h1

/-! what each kind of operation owes -/
section
variable {G : Fact} {o : Oper} {a : Act} {w : World}
theorem ok_run (hg : Region.wanted o (yielded ops a.tmps) = true) (v : Value) (w' : World) (h : (execOp a.eval o).run P w = .ok (.value v) w') (hv : G.p v w') (hw : Grew w w') : StepOk P ops Q G o a w := by
  unfold StepOk
  rw [if_pos hg]
  unfold Oper.wp
  rw [h]
  exact ⟨v, rfl, hv, hw⟩
theorem ok_same (hg : Region.wanted o (yielded ops a.tmps) = true) (v : Value) (h : (execOp a.eval o).run P w = .ok (.value v) w) (hv : G.p v w) : StepOk P ops Q G o a w :=
  ok_run hg v w h hv (Grew.refl w)
theorem ok_not (hg : Region.wanted o (yielded ops a.tmps) = false) (hv : G.p undef w) : StepOk P ops Q G o a w := by
  unfold StepOk
  rw [if_neg (by rw [hg]; simp)]
  exact hv
theorem ok_move (hg : Region.wanted o (yielded ops a.tmps) = true) (x : Operand) (ho : o.op = .move x) (hv : G.p (a.eval x) w) : StepOk P ops Q G o a w :=
  ok_same hg (a.eval x) (by simp [execOp, ho]) hv
theorem ok_assign (hg : Region.wanted o (yielded ops a.tmps) = true) (x : Operand) (ho : o.op = .assign x) (hv : G.p (a.eval x) w) : StepOk P ops Q G o a w :=
  ok_same hg (a.eval x) (by simp [execOp, ho]) hv
theorem ok_pick (hg : Region.wanted o (yielded ops a.tmps) = true) (c x y : Operand) (ho : o.op = .pick c x y) (b : Bool) (hc : a.eval c = .bool b) (hv : G.p (if b = true then a.eval x else a.eval y) w) : StepOk P ops Q G o a w :=
  ok_same hg (if b = true then a.eval x else a.eval y) (by cases b <;> simp [execOp, ho, hc, asBool]) hv
theorem ok_pickT (hg : Region.wanted o (yielded ops a.tmps) = true) (c x y : Operand) (ho : o.op = .pick c x y) (hc : a.eval c = .bool true) (hv : G.p (a.eval x) w) : StepOk P ops Q G o a w := ok_pick hg c x y ho true hc (by simpa using hv)
theorem ok_pickF (hg : Region.wanted o (yielded ops a.tmps) = true) (c x y : Operand) (ho : o.op = .pick c x y) (hc : a.eval c = .bool false) (hv : G.p (a.eval y) w) : StepOk P ops Q G o a w := ok_pick hg c x y ho false hc (by simpa using hv)
theorem ok_not1 (hg : Region.wanted o (yielded ops a.tmps) = true) (t : TypeId) (x : Operand) (ho : o.op = .unOp .not t x) (b : Bool) (hc : a.eval x = .bool b) (hv : G.p (.bool (!b)) w) : StepOk P ops Q G o a w :=
  ok_same hg (.bool (!b)) (by simp [execOp, ho, hc, Op.unary]) hv
theorem ok_conv (hg : Region.wanted o (yielded ops a.tmps) = true) (s d : TypeId) (x : Operand) (ho : o.op = .convert s d x) (v : Value) (h : (convert s d (a.eval x)).run P w = .ok v w) (hv : G.p v w) : StepOk P ops Q G o a w :=
  ok_same hg v (by simp [execOp, ho, h]) hv
theorem ok_enter (hg : Region.wanted o (yielded ops a.tmps) = true) (f : FuncId) (vs : Array Value) (he : (execOp a.eval o).run P w = .ok (.enter f vs) w)
    (h : Calls P f vs w fun e w' => ∃ v, e = .returned v ∧ G.p v w' ∧ Grew w w') : StepOk P ops Q G o a w := by
  unfold StepOk
  rw [if_pos hg]
  unfold Oper.wp
  rw [he, Oper.upon_enter]
  refine h.mono fun e w' hh => ?_
  obtain ⟨v, rfl, h1, h2⟩ := hh
  exact ⟨v, rfl, h1, h2⟩
/-- a Go function with a body of its own -/
def goFn (P : Program) (f : FuncId) : Bool := (P.funcs[f]?).any fun fn => !(fn.name == "runtime.NumGoroutine") && !fn.body.isNone
theorem run_enter {f : FuncId} (h : goFn P f = true) (vs : Array Value) (w : World) : (callFunc f vs).run P w = .ok (.enter f vs) w := by
  unfold goFn at h
  cases hf : P.funcs[f]? with
  | none => rw [hf] at h; cases h
  | some fn =>
    rw [hf] at h
    simp only [Option.any_some, Bool.and_eq_true, Bool.not_eq_true'] at h
    have h1 : fn.name ≠ "runtime.NumGoroutine" := fun he => by rw [he] at h; exact absurd h.1 (by decide)
    have h2 : fn.body ≠ none := fun he => by rw [he] at h; exact absurd h.2 (by simp)
    simp [callFunc, hf, h1, h2]
theorem ok_call (hg : Region.wanted o (yielded ops a.tmps) = true) (f : FuncId) (args : Array Operand) (ts : Array TypeId) (ho : o.op = .call { callee := .value (.func f), args := args, argTypes := ts }) (vs : Array Value) (hvs : args.map a.eval = vs) (hf : goFn P f = true)
    (h : Calls P f vs w fun e w' => ∃ v, e = .returned v ∧ G.p v w' ∧ Grew w w') : StepOk P ops Q G o a w := by
  obtain ⟨dst, op, ty, pos, after, guard⟩ := o
  simp only at ho
  subst ho
  refine ok_enter hg f vs ?_ h
  rw [execOp_call_go, hvs]
  simpa using run_enter hf vs w
theorem ok_invoke (hg : Region.wanted o (yielded ops a.tmps) = true) (r : Operand) (name : String) (args : Array Operand) (ts : Array TypeId) (ho : o.op = .call { callee := .invoke r name, args := args, argTypes := ts }) (x : Value) (hx : a.eval r = x) (vs : Array Value) (hvs : args.map a.eval = vs)
    (f : FuncId) (us : Array Value) (hf : (callMethod x name vs).run P w = .ok (.enter f us) w)
    (h : Calls P f us w fun e w' => ∃ v, e = .returned v ∧ G.p v w' ∧ Grew w w') : StepOk P ops Q G o a w := by
  obtain ⟨dst, op, ty, pos, after, guard⟩ := o
  simp only at ho
  subst ho
  refine ok_enter hg f us ?_ h
  subst hx hvs
  rw [← hf]
  have e0 : (#[a.eval r] ++ args.map a.eval)[0]? = some (a.eval r) := by
    rw [Array.getElem?_append_left (by simp)]; rfl
  have e1 : (args.map a.eval).extract 0 (args.map a.eval).size = args.map a.eval := Array.extract_size
  rw [Array.size_map] at e1
  simp [execOp, resolve, invoke, e1]
  rw [e0]
theorem map0 : (#[] : Array Operand).map a.eval = #[] := by simp
theorem map1 {x : Operand} {u : Value} (h : a.eval x = u) : #[x].map a.eval = #[u] := by simp [h]
theorem map2 {x y : Operand} {u v : Value} (h : a.eval x = u) (h' : a.eval y = v) : #[x, y].map a.eval = #[u, v] := by simp [h, h']
theorem map3 {x y z : Operand} {u v t : Value} (h : a.eval x = u) (h' : a.eval y = v) (h'' : a.eval z = t) : #[x, y, z].map a.eval = #[u, v, t] := by simp [h, h', h'']
theorem wanted_none (hg : o.guard = none) : Region.wanted o (yielded ops a.tmps) = true := by simp [Region.wanted, hg]
theorem wanted_undef (g : Nat) (b : Bool) (hg : o.guard = some (g, b)) (d : Nat) (hd : dstAt ops g = some d) (h : a.eval (.tmp d) = undef) : Region.wanted o (yielded ops a.tmps) = false := by
  have h1 : yielded ops a.tmps g = none := by
    unfold yielded
    unfold dstAt at hd
    rw [hd]
    simp only [Option.bind_some]
    cases e : a.tmps[d]? with
    | none => rfl
    | some v =>
      have h2 : v = undef := by simpa [Act.eval, e] using h
      subst h2
      rfl
  simp [Region.wanted, hg, h1]
theorem wanted_some (g : Nat) (b : Bool) (hg : o.guard = some (g, b)) (d : Nat) (hd : dstAt ops g = some d) (c : Bool) (h : a.eval (.tmp d) = .bool c) : Region.wanted o (yielded ops a.tmps) = (c == b) := by
  have h1 : a.tmps[d]? = some (.bool c) := by
    cases e : a.tmps[d]? with
    | none => simp [Act.eval, e, undef] at h
    | some v => simp [Act.eval, e] at h; rw [h]
  unfold dstAt at hd
  cases c <;> cases b <;> simp [Region.wanted, hg, yielded, hd, h1]
end
end
end Go.Proofs.Ythpbhfepiekchaa

/- Rows of bytes with room: make with a capacity, append within it, a row cut back to nothing. Nothing here speaks of one function. -/
namespace Go.Proofs.Ythpbhfepiekchaa
open Go.ChangeShapes Go.WideShapes Go.ChangeAt Go.RowKit
set_option linter.unusedVariables false

/-- make([]byte, n, cap) -/
theorem wpList_makeCap {w : World} {ops : Array Oper} {rest : List Oper} {o : Oper} {a : Act} {Q : Exit → Act → World → Prop} (hgd : o.guard = none) (l c : Operand) (ho : o.op = .makeSlice 22 l c)
    (n cap : Nat) (L C : Int) (hl : a.eval l = .int .i64 L) (hc : a.eval c = .int .i64 C) (hL : L = (n : Int)) (hC : C = (cap : Int)) (hnc : n ≤ cap) (hcap : cap ≤ 140737488355328)
    (h : ∀ w1, w1.ownsRow w.heap.size 5 1 (.slice (some ⟨w.heap.size, 0, none⟩) n cap) n (cellsOf (List.replicate n 0)) → w.grownBy w1 none → wpList Try.prog ops Q rest (a.put o.dst (.slice (some ⟨w.heap.size, 0, none⟩) n cap)) w1) :
    wpList Try.prog ops Q (o :: rest) a w := by
  obtain ⟨i0, hi, hz0, hz1, hz2⟩ := info_parts info_u8
  subst hL hC
  refine wpList_plain hgd fun K hK' => ?_
  have hr := run_make (P := Try.prog) w 22 5 i0 (.int .u8 0) Try.underlying22 hi hz0 .i64 .i64 n cap (by omega) (by omega) (by rw [hz2]; omega) (by omega)
  simp only [Int.toNat_natCast, hz1, Nat.mul_one] at hr
  have e0 : (Value.int .u8 0).cells = #[Value.int .u8 0] := rfl
  have hown : (w.alloc (.cells (madeCells (Value.int .u8 0).cells cap) 5)).ownsRow w.heap.size 5 1 (.slice (some ⟨w.heap.size, 0, none⟩) n cap) n (cellsOf (List.replicate n 0)) := by
    refine ⟨by simp [cellsOf], Or.inr ⟨w.heap.size, cap, madeCells (Value.int .u8 0).cells cap, rfl, Nat.le_refl _, by show (w.heap.push _)[w.heap.size]? = _; simp, hnc, by unfold maxLen; omega, by rw [size_madeCells, Nat.mul_one], ?_⟩⟩
    rw [e0, toList_madeCells_one, Nat.mul_one, List.take_replicate, Nat.min_eq_left hnc]
    simp [cellsOf]
  unfold Oper.wp
  simp [execOp, ho, hl, hc, hr, Result.andThen]
  exact hK' _ _ (h _ hown (World.grownBy_alloc w _ none))

/-- append of whatever bytes onto a row of the call's own, where there is room -/
theorem wpList_fit {w : World} {ops : Array Oper} {rest : List Oper} {o : Oper} {a : Act} {Q : Exit → Act → World → Prop} (hgd : o.guard = none) (s x : Operand)
    (ho : o.op = .call { callee := .builtin .append, args := #[s, x], argTypes := #[22, 22] })
    (base g n cap : Nat) (xs : List UInt8) (hs : a.eval s = .slice (some ⟨g, 0, none⟩) n cap) (hown : w.ownsRow base 5 1 (.slice (some ⟨g, 0, none⟩) n cap) n (cellsOf xs))
    (A : Option Addr) (m c B : Nat) (bs : List UInt8) (hx : a.eval x = .slice A m c) (hm : bs.length = m) (hnil : A = none → c = 0) (hb : BytesAt w B A bs)
    (hroom : n + m ≤ cap)
    (h : ∀ w', w'.ownsRow base 5 1 (.slice (some ⟨g, 0, none⟩) (n + m) cap) (n + m) (cellsOf (xs ++ bs)) → w.grownBy w' (some g) → wpList Try.prog ops Q rest (a.put o.dst (.slice (some ⟨g, 0, none⟩) (n + m) cap)) w') : wpList Try.prog ops Q (o :: rest) a w := by
  obtain ⟨i0, hi, hz0, hz1, hz2⟩ := info_parts info_u8
  subst hm
  rcases A with _ | ad
  · obtain rfl := hnil rfl
    have hbs : bs = [] := by
      rcases Nat.eq_zero_or_pos bs.length with h0 | h0
      · exact List.eq_nil_of_length_eq_zero h0
      · obtain ⟨_, _, hh, _⟩ := hb h0
        cases hh
    subst hbs
    refine wpList_append_own_none hgd s x 22 ho base 5 i0 1 Try.underlying22 hi _ n _ hs hown hx ?_
    have := h w (by simpa using hown) ⟨rfl, rfl, rfl, Nat.le_refl _, fun _ _ _ => rfl⟩
    exact this
  · refine wpList_append_fits w hgd s x 22 ho base 5 i0 1 Try.underlying22 hi hz1 g n cap _ hs hown ad bs.length c (cellsOf bs) hx (by rw [cellsOf_length, Nat.mul_one]) ?_ ?_ hroom ?_
    · intro j u hu
      have hj : j < bs.length := by
        rcases Nat.lt_or_ge j bs.length with hh | hh
        · exact hh
        · rw [List.getElem?_eq_none (by rw [cellsOf_length]; exact hh)] at hu; cases hu
      obtain ⟨b, off, he, _, hc⟩ := hb (by omega)
      obtain rfl := Option.some.inj he
      rw [cellsOf_at bs j hj] at hu
      rw [Go.WideShapes.add_plain, hc j hj, hu]
    · intro u hu
      obtain ⟨b, _, rfl⟩ := List.mem_map.1 hu
      rfl
    · intro w' h1 h2
      exact h w' (by rw [cellsOf_append]; exact h1) h2
/-- a row of one's own, cut back to nothing -/
theorem own_cut {w : World} {base g n cap : Nat} {e : TypeId} {xs : List Value} (h : w.ownsRow base e 1 (.slice (some ⟨g, 0, none⟩) n cap) n xs) : w.ownsRow base e 1 (.slice (some ⟨g, 0, none⟩) 0 cap) 0 [] := by
  rcases h.2 with ⟨h0, _⟩ | ⟨g', cap', cur, h0, hb, hg, hnc, hcm, hsz, _⟩
  · cases h0
  · cases h0
    exact ⟨rfl, Or.inr ⟨g, cap, cur, rfl, hb, hg, by omega, hcm, hsz, by simp⟩⟩
theorem own_base {w : World} {base base' g n cap : Nat} {e : TypeId} {xs : List Value} (h : w.ownsRow base e 1 (.slice (some ⟨g, 0, none⟩) n cap) n xs) (hb : base' ≤ g) : w.ownsRow base' e 1 (.slice (some ⟨g, 0, none⟩) n cap) n xs := by
  rcases h.2 with ⟨h0, _⟩ | ⟨g', cap', cur, h0, _, hg, hnc, hcm, hsz, ht⟩
  · cases h0
  · cases h0
    exact ⟨h.1, Or.inr ⟨g, cap, cur, rfl, hb, hg, hnc, hcm, hsz, ht⟩⟩
/-- what is owned stays so where its block does -/
theorem own_keep {w w' : World} {base g n cap : Nat} {e : TypeId} {xs : List Value} (h : w.ownsRow base e 1 (.slice (some ⟨g, 0, none⟩) n cap) n xs) (hk : w'.heap[g]? = w.heap[g]?) : w'.ownsRow base e 1 (.slice (some ⟨g, 0, none⟩) n cap) n xs := by
  rcases h.2 with ⟨h0, _⟩ | ⟨g', cap', cur, h0, hb, hg, hnc, hcm, hsz, ht⟩
  · cases h0
  · cases h0
    exact ⟨h.1, Or.inr ⟨g, cap, cur, rfl, hb, hk.trans hg, hnc, hcm, hsz, ht⟩⟩
theorem own_lt {w : World} {base g n cap : Nat} {e : TypeId} {xs : List Value} (h : w.ownsRow base e 1 (.slice (some ⟨g, 0, none⟩) n cap) n xs) : base ≤ g ∧ g < w.heap.size := by
  rcases h.2 with ⟨h0, _⟩ | ⟨g', cap', cur, h0, hb, hg, _⟩
  · cases h0
  · cases h0
    exact ⟨hb, (Array.getElem?_eq_some_iff.1 hg).1⟩
end Go.Proofs.Ythpbhfepiekchaa

/- Rows of bytes: pieces that can be read, rows of the call's own, parts of them, what stays while memory grows. Nothing here speaks of one function. -/
namespace Go.Proofs.Ythpbhfepiekchaa
open Go.ChangeShapes Go.WideShapes Go.ChangeAt Go.RowKit
set_option linter.unusedVariables false
set_option linter.unusedSimpArgs false

theorem bytes_part {w : World} {B b off : Nat} {bs : List UInt8} (h : BytesAt w B (some ⟨b, off, none⟩) bs) (i n : Nat) : BytesAt w B (some ⟨b, off + i, none⟩) ((bs.drop i).take n) := fun hn => by
  have hl : ((bs.drop i).take n).length ≤ bs.length - i := by simp; omega
  obtain ⟨b', off', e, hB, hc⟩ := h (by omega)
  cases e
  refine ⟨b, off + i, rfl, hB, fun j hj => ?_⟩
  rw [Nat.add_assoc, hc (i + j) (by omega)]
  simp
theorem below_setRow {B : Nat} {a w : World} (h : Below B a w) {g : Nat} (hg : B ≤ g) (cs : Array Value) : Below B a (w.setRow g cs) :=
  ⟨h.os, h.tape, h.output, by rw [setRow_size]; exact h.size, fun k hk => (setRow_other w g k cs (by omega)).trans (h.block k hk)⟩
theorem alloc_size (w : World) (o : Obj) : (w.alloc o).heap.size = w.heap.size + 1 := by show (w.heap.push o).size = _; simp
theorem grown_then {a b c : World} {row : Option Nat} (h : a.grownBy b row) (k : b.grownBy c row) : a.grownBy c row :=
  ⟨k.os.trans h.os, k.tape.trans h.tape, k.output.trans h.output, Nat.le_trans h.size k.size, fun i hi hr => (k.block i (Nat.lt_of_lt_of_le hi h.size) hr).trans (h.block i hi hr)⟩
theorem grown_below {a b : World} (h : Below a.heap.size a b) (row : Option Nat) : a.grownBy b row := ⟨h.os, h.tape, h.output, h.size, fun i hi _ => h.block i hi⟩
theorem grown_drew {a b : World} {row : Option Nat} (h : a.grownBy b row) : a.grownBy b.drew row := ⟨h.os, h.tape, h.output, h.size, h.block⟩
theorem grown_row {a b : World} {row : Option Nat} (h : a.grownBy b row) (g : Nat) (cs : Array Value) (hg : a.heap.size ≤ g) : a.grownBy (b.setRow g cs) row :=
  ⟨h.os, h.tape, h.output, by rw [setRow_size]; exact h.size, fun i hi hr => (setRow_other b g i cs (by omega)).trans (h.block i hi hr)⟩
/-- bytes apart from block k -/
def Apart (A : Option Addr) (bs : List UInt8) (k : Nat) : Prop := 0 < bs.length → ∀ ad, A = some ad → ad.block ≠ k
theorem BytesAt.grown {w w' : World} {A : Option Addr} {bs : List UInt8} {k : Nat} (h : BytesAt w w.heap.size A bs) (hb : w.grownBy w' (some k)) (hA : Apart A bs k) : BytesAt w' w'.heap.size A bs := fun hn => by
  obtain ⟨b, off, e, hlt, hc⟩ := h hn
  refine ⟨b, off, e, Nat.lt_of_lt_of_le hlt hb.size, fun j hj => ?_⟩
  rw [← hc j hj]
  exact World.cell?_of_block (w := w) (hb.block b hlt (by simpa using hA hn _ e))
theorem BytesAt.front {w : World} {B : Nat} {A : Option Addr} {bs : List UInt8} (h : BytesAt w B A bs) (n : Nat) : BytesAt w B A (bs.take n) := fun hn => by
  have hl : 0 < bs.length := by rw [List.length_take] at hn; omega
  obtain ⟨b, off, e, hlt, hc⟩ := h hl
  refine ⟨b, off, e, hlt, fun j hj => ?_⟩
  rw [List.length_take] at hj
  rw [hc j (by omega)]
  simp
theorem add_none (A : Option Addr) : A.map (·.add 0) = A := by
  cases A with
  | none => rfl
  | some a => simp [Addr.add]
/-- x[:n] -/
theorem slice_hi (A : Option Addr) (m c n : Nat) (h1 : n ≤ c) (w : World) : (Instr.slice 22 (.slice A m c) none (some (.int .i64 (n : Int))) none).run Try.prog w = .ok (.slice A n c) w := by
  obtain ⟨i0, hi, hz0, hz1, hz2⟩ := info_parts info_u8
  have e1 : (0 : Int) ≤ (n : Int) ∧ (n : Int) ≤ (c : Int) := by omega
  simp [Instr.slice, Instr.sliceBounds, Instr.sliceBound, asIntOf, run_underlying Try.underlying22, sizeOf, typeInfo, hi, e1, add_none]
  intro h; omega
/-- x[n:] -/
theorem slice_lo (A : Option Addr) (m c n : Nat) (h1 : n ≤ m) (h2 : m ≤ c) (hnil : A = none → c = 0) : ∃ A1, (∀ w, (Instr.slice 22 (.slice A m c) (some (.int .i64 (n : Int))) none none).run Try.prog w = .ok (.slice A1 (m - n) (c - n)) w) ∧
    (∀ w B bs, bs.length = m → BytesAt w B A bs → BytesAt w B A1 (bs.drop n)) ∧ (∀ k bs, bs.length = m → Apart A bs k → Apart A1 (bs.drop n) k) ∧ (A1 = none → c - n = 0) := by
  obtain ⟨i0, hi, hz0, hz1, hz2⟩ := info_parts info_u8
  have e1 : (0 : Int) ≤ (n : Int) ∧ (n : Int) ≤ (m : Int) := by omega
  refine ⟨if c = n then A else A.map (·.add (n * 1)), fun w => ?_, fun w B bs hm hb hn => ?_, fun k bs hm hk hn ad had => ?_, fun h => ?_⟩
  · simp [Instr.slice, Instr.sliceBounds, Instr.sliceBound, asIntOf, run_underlying Try.underlying22, sizeOf, typeInfo, hi, hz1, e1]
    intro h; omega
  · rw [List.length_drop] at hn
    obtain ⟨b, off, rfl, hlt, hc⟩ := hb (by omega)
    refine ⟨b, off + n, ?_, hlt, fun j hj => ?_⟩
    · rw [if_neg (by omega)]; simp [Addr.add]
    · rw [Nat.add_assoc, hc (n + j) (by rw [List.length_drop] at hj; omega)]
      simp
  · split at had
    · exact hk (by rw [List.length_drop] at hn; omega) ad had
    · cases A with
      | none => cases had
      | some a =>
        simp only [Option.map_some, Option.some.injEq] at had
        subst had
        have := hk (by rw [List.length_drop] at hn; omega) a rfl
        unfold Addr.add
        split <;> exact this
  · split at h
    · omega
    · cases A with
      | none => have := hnil rfl; omega
      | some a => cases h
/-- a piece of bytes: where it lies, its room, what it holds -/
structure Piece where
  A : Option Addr
  c : Nat
  bs : List UInt8
def Piece.val (p : Piece) : Value := .slice p.A p.bs.length p.c
structure PieceOk (w : World) (p : Piece) : Prop where
  bytes : BytesAt w w.heap.size p.A p.bs
  fits : p.bs.length ≤ p.c
  most : p.c ≤ 9223372036854775807
  long : p.bs.length ≤ 140737488355328
  nil : p.A = none → p.c = 0
theorem PieceOk.keep {w w' : World} {p : Piece} (h : PieceOk w p) (hb : Below w.heap.size w w') : PieceOk w' p :=
  ⟨(h.bytes.keep fun p hp => hb.cell hp).more hb.size, h.fits, h.most, h.long, h.nil⟩
/-- a row of the call's own, as a piece -/
theorem own_piece {w : World} {base g n cap : Nat} {bs : List UInt8} (h : w.ownsRow base 5 1 (.slice (some ⟨g, 0, none⟩) n cap) n (cellsOf bs)) (hc : cap ≤ 140737488355328) : PieceOk w ⟨some ⟨g, 0, none⟩, cap, bs⟩ := by
  obtain ⟨A, c, e, hl, hlc, _, hnil, hb⟩ := own_open h
  cases e
  exact ⟨hb, by simp only; omega, by simp only; omega, by simp only; omega, fun h => by cases h⟩
/-- bytes that a call has laid in a block -/
theorem piece_lit (w : World) (k : Nat) (cs : Array Value) (e : TypeId) (bs : List UInt8) (c : Nat) (fr : Nat × Nat) (hk : w.heap[k]? = some (.cells cs e fr)) (hc : cs.toList.take bs.length = cellsOf bs) (hl : bs.length ≤ c) (hm : c ≤ 140737488355328) : PieceOk w ⟨some ⟨k, 0, none⟩, c, bs⟩ :=
  ⟨fun hn => ⟨k, 0, rfl, (Array.getElem?_eq_some_iff.1 hk).1, fun j hj => by
    rw [Nat.zero_add, cell_of_row w k j cs e fr hk]
    have h1 := cellsOf_at bs j hj
    rw [← hc, List.getElem?_take] at h1
    rw [if_pos hj] at h1
    simpa using h1⟩, hl, by simp only; omega, by simp only; omega, fun h => by cases h⟩
theorem cell_told {w : World} {base g n cap : Nat} {bs : List UInt8} (h : w.ownsRow base 5 1 (.slice (some ⟨g, 0, none⟩) n cap) n (cellsOf bs)) (j : Nat) (x : UInt8) (hj : bs[j]? = some x) : w.cell? ⟨g, j, none⟩ = some (.int .u8 (x.toNat : Int)) := by
  obtain ⟨hj1, rfl⟩ := List.getElem?_eq_some_iff.1 hj
  have hl : bs.length = n := by have := h.1; rwa [cellsOf_length, Nat.mul_one] at this
  rw [h.cellAt j (by omega), cellsOf_at bs j hj1]
theorem IsRow.piece {w : World} {a : Option Addr} {len cap : Nat} {zs : List Int} (h : IsRow .u8 w a len cap zs) : ∃ bs : List UInt8, bs.length = len ∧ (len ≤ 140737488355328 → cap ≤ maxLen ∧ (a = none → cap = 0) ∧ BytesAt w w.heap.size a bs ∧ len ≤ cap) := by
  obtain ⟨bs, h1, h2, h3, h4, h5⟩ := h.bytes
  exact ⟨bs, h1, fun _ => ⟨h3, h4, h5, h2⟩⟩
theorem own_stay {w w' : World} {base n : Nat} {e : TypeId} {v : Value} {xs : List Value} (h : w.ownsRow base e 1 v n xs) (hb : Below w.heap.size w w') : w'.ownsRow base e 1 v n xs := by
  refine ⟨h.1, ?_⟩
  rcases h.2 with h0 | ⟨g, cap, cur, rfl, h1, h2, h3⟩
  · exact Or.inl h0
  · exact Or.inr ⟨g, cap, cur, rfl, h1, (hb.block g (Array.getElem?_eq_some_iff.1 h2).1).trans h2, h3⟩
theorem own_none (w : World) (base : Nat) (e : TypeId) : w.ownsRow base e 1 (.slice none 0 0) 0 (cellsOf []) := ⟨rfl, Or.inl ⟨rfl, rfl⟩⟩
/-- x[lo:hi] -/
theorem slice_mid (b off m c lo hi : Nat) (h1 : lo ≤ hi) (h2 : hi ≤ m) (h3 : m ≤ c) : ∃ A1, (∀ w, (Instr.slice 22 (.slice (some ⟨b, off, none⟩) m c) (some (.int .i64 (lo : Int))) (some (.int .i64 (hi : Int))) none).run Try.prog w = .ok (.slice A1 (hi - lo) (c - lo)) w) ∧
    (∀ w B bs, bs.length = m → BytesAt w B (some ⟨b, off, none⟩) bs → BytesAt w B A1 ((bs.drop lo).take (hi - lo))) ∧ (A1 = none → c - lo = 0) := by
  obtain ⟨i0, hi', hz0, hz1, hz2⟩ := info_parts info_u8
  have e1 : (0 : Int) ≤ (lo : Int) ∧ (lo : Int) ≤ (hi : Int) := by omega
  have e2 : (0 : Int) ≤ (hi : Int) ∧ (hi : Int) ≤ (c : Int) := by omega
  refine ⟨if c = lo then some ⟨b, off, none⟩ else (some (⟨b, off, none⟩ : Addr)).map (·.add (lo * 1)), fun w => ?_, fun w B bs hm hb hn => ?_, fun h => ?_⟩
  · have n1 : ¬ c < hi := by omega
    have n2 : ¬ hi < lo := by omega
    simp [Instr.slice, Instr.sliceBounds, Instr.sliceBound, asIntOf, run_underlying Try.underlying22, sizeOf, typeInfo, hi', hz1, h1, show hi ≤ c by omega]
  · rw [List.length_take, List.length_drop] at hn
    rw [if_neg (by omega)]
    rw [Option.map_some, Nat.mul_one, Go.WideShapes.add_plain]
    exact bytes_part hb lo (hi - lo) (by rw [List.length_take, List.length_drop]; omega)
  · split at h <;> cases h
theorem cellsOf_set (bs : List UInt8) (j : Nat) (x : UInt8) : (cellsOf bs).set j (.int .u8 (x.toNat : Int)) = cellsOf (bs.set j x) := by
  simp [cellsOf, List.map_set]
theorem piece_nil (w : World) : PieceOk w ⟨none, 0, []⟩ := ⟨BytesAt.nil _ _ _, by simp, by simp, by simp, fun _ => rfl⟩
/-- x[lo:hi], wherever x lies -/
theorem slice_any (A : Option Addr) (m c lo hi : Nat) (h1 : lo ≤ hi) (h2 : hi ≤ m) (h3 : m ≤ c) (hnil : A = none → c = 0) : ∃ A1, (∀ w, (Instr.slice 22 (.slice A m c) (some (.int .i64 (lo : Int))) (some (.int .i64 (hi : Int))) none).run Try.prog w = .ok (.slice A1 (hi - lo) (c - lo)) w) ∧
    (∀ w B bs, bs.length = m → BytesAt w B A bs → BytesAt w B A1 ((bs.drop lo).take (hi - lo))) ∧ (A1 = none → c - lo = 0) := by
  obtain ⟨i0, hi', hz0, hz1, hz2⟩ := info_parts info_u8
  refine ⟨if c = lo then A else A.map (·.add (lo * 1)), fun w => ?_, fun w B bs hm hb hn => ?_, fun h => ?_⟩
  · simp [Instr.slice, Instr.sliceBounds, Instr.sliceBound, asIntOf, run_underlying Try.underlying22, sizeOf, typeInfo, hi', hz1, h1, show hi ≤ c by omega]
  · rw [List.length_take, List.length_drop] at hn
    obtain ⟨b, off, rfl, hlt, hc⟩ := hb (by omega)
    rw [if_neg (by omega), Option.map_some, Nat.mul_one, Go.WideShapes.add_plain]
    exact bytes_part hb lo (hi - lo) (by rw [List.length_take, List.length_drop]; omega)
  · split at h
    · have := hnil h; omega
    · cases A with
      | none => have := hnil rfl; omega
      | some a => cases h
/-- a cell, kept -/
structure CellAt (w : World) (p : Addr) (v : Value) : Prop where
  val : w.cell? p = some v
  lt : p.block < w.heap.size
theorem CellAt.keep {w w' : World} {p : Addr} {v : Value} (h : CellAt w p v) (hg : Below w.heap.size w w') : CellAt w' p v := ⟨(hg.cell h.lt).trans h.val, Nat.lt_of_lt_of_le h.lt hg.size⟩
/-- a row of the call's own that is not empty -/
theorem own_some {w : World} {base n : Nat} {e : TypeId} {v : Value} {cs : List Value} (h : w.ownsRow base e 1 v n cs) (hn : 0 < n) : ∃ g c, v = .slice (some ⟨g, 0, none⟩) n c ∧ base ≤ g ∧ n ≤ c ∧ c ≤ maxLen := by
  rcases h.2 with ⟨rfl, h0⟩ | ⟨g, cap, cur, rfl, hb, hg, hnc, hcm, _⟩
  · omega
  · exact ⟨g, cap, rfl, hb, hnc, hcm⟩
/-- a row of the call's own as a piece, wherever it lies -/
theorem own_pieceAny {w : World} {base n : Nat} {v : Value} {bs : List UInt8} (h : w.ownsRow base 5 1 v n (cellsOf bs)) (hn : n ≤ 140737488355328) : ∃ A c, v = .slice A n c ∧ bs.length = n ∧ PieceOk w ⟨A, c, bs⟩ := by
  obtain ⟨A, c, rfl, hl, hlc, hm, hnil, hb⟩ := own_open h
  have hm' : c ≤ 9223372036854775807 := hm
  exact ⟨A, c, rfl, hl, hb, by simp only; omega, hm', by simp only; omega, hnil⟩
theorem row_piece {w : World} {a : Option Addr} {len cap : Nat} {zs : List Int} (h : IsRow .u8 w a len cap zs) (hl : len ≤ 140737488355328) : ∃ bs : List UInt8, bs.length = len ∧ len ≤ cap ∧ PieceOk w ⟨a, cap, bs⟩ := by
  obtain ⟨bs, h1, h2, h3, h4, h5⟩ := h.bytes
  have h3' : cap ≤ 9223372036854775807 := h3
  exact ⟨bs, h1, h2, h5, by simp only; omega, h3', by simp only; omega, h4⟩
end Go.Proofs.Ythpbhfepiekchaa

/- Facts for the law by an invariant, of rows of bytes, texts, numbers; what plain operations on them owe. Nothing here speaks of one function. -/
namespace Go.Proofs.Ythpbhfepiekchaa
open Go.ChangeShapes Go.WideShapes Go.ChangeAt Go.RowKit
set_option linter.unusedVariables false
set_option linter.unusedSimpArgs false

/-- a row that can be read -/
def Fact.piece (bs : List UInt8) : Fact :=
  ⟨fun v w => ∃ A c, v = .slice A bs.length c ∧ PieceOk w ⟨A, c, bs⟩, fun v w w' ⟨A, c, h1, h2⟩ hg => ⟨A, c, h1, h2.keep hg⟩⟩
/-- a row of the call's own, no older than base -/
def Fact.own (base n : Nat) (bs : List UInt8) : Fact :=
  ⟨fun v w => ∃ g, base ≤ g ∧ v = .slice (some ⟨g, 0, none⟩) n n ∧ w.ownsRow base 5 1 (.slice (some ⟨g, 0, none⟩) n n) n (cellsOf bs),
    fun v w w' ⟨g, h1, h2, h3⟩ hg => ⟨g, h1, h2, own_keep h3 (hg.block g (own_lt h3).2)⟩⟩
theorem Fact.own_piece {base n : Nat} {bs : List UInt8} {v : Value} {w : World} (hn : n ≤ 140737488355328) (h : (Fact.own base n bs).p v w) : (Fact.piece bs).p v w := by
  obtain ⟨g, h1, rfl, h3⟩ := h
  have hl : bs.length = n := by have := h3.1; rwa [cellsOf_length, Nat.mul_one] at this
  exact ⟨_, n, by rw [hl], Go.Proofs.Ythpbhfepiekchaa.own_piece h3 hn⟩
/-- a text -/
def Fact.str (bs : List UInt8) : Fact := Fact.is (.string (strOf bs))
section
variable {ops : Array Oper} {Q : Exit → Act → World → Prop} {G : Fact} {o : Oper} {a : Act} {w : World}
/-- a call whose answer is told by a contract -/
theorem ok_fn (hg : Region.wanted o (yielded ops a.tmps) = true) (f : FuncId) (args : Array Operand) (ts : Array TypeId) (ho : o.op = .call { callee := .value (.func f), args := args, argTypes := ts }) (vs : Array Value) (hvs : args.map a.eval = vs) (hf : goFn Try.prog f = true)
    {R : Ending → World → Prop} (h : Calls Try.prog f vs w R) (hR : ∀ e w', R e w' → ∃ v, e = .returned v ∧ G.p v w' ∧ Grew w w') : StepOk Try.prog ops Q G o a w :=
  ok_call hg f args ts ho vs hvs hf (h.mono hR)
theorem ok_str (hg : Region.wanted o (yielded ops a.tmps) = true) (x : Operand) (ho : o.op = .convert 22 9 x) (bs : List UInt8) (h : (Fact.piece bs).p (a.eval x) w) : StepOk Try.prog ops Q (Fact.str bs) o a w := by
  obtain ⟨A, c, e, p⟩ := h
  exact ok_conv hg _ _ x ho _ (by rw [e]; exact conv_bytes A bs _ c _ w p.bytes rfl) rfl
/-- two texts, are they the same? -/
theorem ok_streq (hg : Region.wanted o (yielded ops a.tmps) = true) (x y : Operand) (t : TypeId) (ho : o.op = .binOp .eql 9 x y t) (s s' : ByteArray) (h1 : a.eval x = .string s) (h2 : a.eval y = .string s') (b : Bool) (hb : decide (s = s') = b) : StepOk Try.prog ops Q (Fact.is (.bool b)) o a w := by
  subst hb
  refine ok_same hg _ ?_ rfl
  have e : (s.toList == s'.toList) = decide (s = s') := by
    rw [ByteArray.toList_eq, ByteArray.toList_eq]
    by_cases h : s = s'
    · subst h; simp
    · have : ¬ s.data = s'.data := fun hh => h (by cases s; cases s'; simp_all)
      simp [h, this]
  simp only [execOp, ho, h1, h2]
  go_simp
theorem ok_len (hg : Region.wanted o (yielded ops a.tmps) = true) (x : Operand) (ho : o.op = .call { callee := .builtin .len, args := #[x], argTypes := #[22] }) (A : Option Addr) (n c : Nat) (hx : a.eval x = .slice A n c) : StepOk Try.prog ops Q (Fact.is (.int .i64 (n : Int))) o a w :=
  ok_same hg _ (by
    have hr : (Builtin.len_ #[22] o.type #[.slice A n c]).run Try.prog w = .ok (.int .i64 (n : Int)) w := by simp [Builtin.len_, run_underlying Try.underlying22]; rfl
    simp [execOp, ho, resolve, invoke, builtin, hx, hr]) rfl
theorem ok_booleq (hg : Region.wanted o (yielded ops a.tmps) = true) (x y : Operand) (t : TypeId) (ho : o.op = .binOp .eql 4 x y t) (p q : Bool) (h1 : a.eval x = .bool p) (h2 : a.eval y = .bool q) (b : Bool) (hb : decide (p = q) = b) : StepOk Try.prog ops Q (Fact.is (.bool b)) o a w := by
  subst hb
  refine ok_same hg _ ?_ rfl
  simp only [execOp, ho, h1, h2]
  cases p <;> cases q <;> go_simp
theorem ok_inteq (hg : Region.wanted o (yielded ops a.tmps) = true) (x y : Operand) (t : TypeId) (ho : o.op = .binOp .eql 3 x y t) (p q : Int) (h1 : a.eval x = .int .i64 p) (h2 : a.eval y = .int .i64 q) (b : Bool) (hb : decide (p = q) = b) : StepOk Try.prog ops Q (Fact.is (.bool b)) o a w := by
  subst hb
  refine ok_same hg _ ?_ rfl
  simp only [execOp, ho, h1, h2]
  go_simp
  rfl
theorem ok_u8eq (hg : Region.wanted o (yielded ops a.tmps) = true) (x y : Operand) (t : TypeId) (ho : o.op = .binOp .eql 5 x y t) (p q : Int) (h1 : a.eval x = .int .u8 p) (h2 : a.eval y = .int .u8 q) (b : Bool) (hb : decide (p = q) = b) : StepOk Try.prog ops Q (Fact.is (.bool b)) o a w := by
  subst hb
  refine ok_same hg _ ?_ rfl
  simp only [execOp, ho, h1, h2]
  go_simp
  rfl
theorem ok_u8int (hg : Region.wanted o (yielded ops a.tmps) = true) (x : Operand) (ho : o.op = .convert 5 3 x) (p : Int) (h1 : a.eval x = .int .u8 p) (hp : 0 ≤ p) (hp' : p < 256) : StepOk Try.prog ops Q (Fact.is (.int .i64 p)) o a w := by
  refine ok_same hg _ ?_ rfl
  simp only [execOp, ho, h1]
  go_simp
  rw [IntKind.wrap_i64]; omega
theorem ok_rem (hg : Region.wanted o (yielded ops a.tmps) = true) (x y : Operand) (t : TypeId) (ho : o.op = .binOp .rem 3 x y t) (p q r : Int) (h1 : a.eval x = .int .i64 p) (h2 : a.eval y = .int .i64 q) (hp : 0 ≤ p) (hp' : p < 4294967296) (hq : 0 < q) (hq' : q < 4294967296) (hr : p % q = r) : StepOk Try.prog ops Q (Fact.is (.int .i64 r)) o a w := by
  subst hr
  have hq0 : ¬ q = 0 := by omega
  have h3 := Int.emod_nonneg p hq0
  have h4 := Int.emod_lt_of_pos p hq
  have h5 : Int.tmod p q = p % q := Int.tmod_eq_emod_of_nonneg hp
  refine ok_same hg _ ?_ rfl
  simp only [execOp, ho, h1, h2]
  go_simp
theorem ok_index (hg : Region.wanted o (yielded ops a.tmps) = true) (x y : Operand) (ho : o.op = .indexAddr 22 x y) (b off n c j : Nat) (h1 : a.eval x = .slice (some ⟨b, off, none⟩) n c) (h2 : a.eval y = .int .i64 (j : Int)) (hj : j < n) : StepOk Try.prog ops Q (Fact.is (.pointer (some ⟨b, off + j, none⟩))) o a w := by
  have hj' : (j : Int) < (n : Int) := by omega
  refine ok_same hg _ ?_ rfl
  simp only [execOp, ho, h1, h2]
  go_simp
theorem ok_loadb (hg : Region.wanted o (yielded ops a.tmps) = true) (x : Operand) (ho : o.op = .load 5 x) (p : Addr) (v : Value) (h1 : a.eval x = .pointer (some p)) (hc : w.cell? p = some v) : StepOk Try.prog ops Q (Fact.is v) o a w := by
  refine ok_same hg _ ?_ rfl
  simp only [execOp, ho, h1]
  go_simp
theorem ok_min (hg : Region.wanted o (yielded ops a.tmps) = true) (x y : Operand) (ts : Array TypeId) (ho : o.op = .call { callee := .builtin .min, args := #[x, y], argTypes := ts }) (p q r : Int) (h1 : a.eval x = .int .i64 p) (h2 : a.eval y = .int .i64 q) (hr : (if q < p then q else p) = r) : StepOk Try.prog ops Q (Fact.is (.int .i64 r)) o a w := by
  subst hr
  refine ok_same hg _ ?_ rfl
  simp [execOp, ho, resolve, invoke, builtin, h1, h2, Builtin.min_, Builtin.min2]
theorem ok_sliceHi (hg : Region.wanted o (yielded ops a.tmps) = true) (x y : Operand) (ho : o.op = .slice 22 x none (some y) none) (A : Option Addr) (m c n : Nat) (h1 : a.eval x = .slice A m c) (h2 : a.eval y = .int .i64 (n : Int)) (hn : n ≤ c) : StepOk Try.prog ops Q (Fact.is (.slice A n c)) o a w := by
  have hr := slice_hi A m c n hn w
  refine ok_same hg _ ?_ rfl
  simp [execOp, ho, h1, h2, Instr.sliceAt, hr]
theorem ok_strne (hg : Region.wanted o (yielded ops a.tmps) = true) (x y : Operand) (t : TypeId) (ho : o.op = .binOp .neq 9 x y t) (s s' : ByteArray) (h1 : a.eval x = .string s) (h2 : a.eval y = .string s') (b : Bool) (hb : decide (s = s') = !b) : StepOk Try.prog ops Q (Fact.is (.bool b)) o a w := by
  have e : (s.toList == s'.toList) = !b := by
    rw [← hb, ByteArray.toList_eq, ByteArray.toList_eq]
    by_cases h : s = s'
    · subst h; simp
    · have : ¬ s.data = s'.data := fun hh => h (by cases s; cases s'; simp_all)
      simp [h, this]
  refine ok_same hg _ ?_ rfl
  simp only [execOp, ho, h1, h2]
  go_simp
theorem ok_intgt (hg : Region.wanted o (yielded ops a.tmps) = true) (x y : Operand) (t : TypeId) (ho : o.op = .binOp .gtr 3 x y t) (p q : Int) (h1 : a.eval x = .int .i64 p) (h2 : a.eval y = .int .i64 q) (b : Bool) (hb : decide (q < p) = b) : StepOk Try.prog ops Q (Fact.is (.bool b)) o a w := by
  subst hb
  refine ok_same hg _ ?_ rfl
  simp only [execOp, ho, h1, h2]
  go_simp
  try rfl
theorem ok_intlt (hg : Region.wanted o (yielded ops a.tmps) = true) (x y : Operand) (t : TypeId) (ho : o.op = .binOp .lss 3 x y t) (p q : Int) (h1 : a.eval x = .int .i64 p) (h2 : a.eval y = .int .i64 q) (b : Bool) (hb : decide (p < q) = b) : StepOk Try.prog ops Q (Fact.is (.bool b)) o a w := by
  subst hb
  refine ok_same hg _ ?_ rfl
  simp only [execOp, ho, h1, h2]
  go_simp
  try rfl
theorem ok_intge (hg : Region.wanted o (yielded ops a.tmps) = true) (x y : Operand) (t : TypeId) (ho : o.op = .binOp .geq 3 x y t) (p q : Int) (h1 : a.eval x = .int .i64 p) (h2 : a.eval y = .int .i64 q) (b : Bool) (hb : decide (q ≤ p) = b) : StepOk Try.prog ops Q (Fact.is (.bool b)) o a w := by
  subst hb
  refine ok_same hg _ ?_ rfl
  simp only [execOp, ho, h1, h2]
  go_simp
  try rfl
theorem ok_intle (hg : Region.wanted o (yielded ops a.tmps) = true) (x y : Operand) (t : TypeId) (ho : o.op = .binOp .leq 3 x y t) (p q : Int) (h1 : a.eval x = .int .i64 p) (h2 : a.eval y = .int .i64 q) (b : Bool) (hb : decide (p ≤ q) = b) : StepOk Try.prog ops Q (Fact.is (.bool b)) o a w := by
  subst hb
  refine ok_same hg _ ?_ rfl
  simp only [execOp, ho, h1, h2]
  go_simp
  try rfl
theorem ok_intne (hg : Region.wanted o (yielded ops a.tmps) = true) (x y : Operand) (t : TypeId) (ho : o.op = .binOp .neq 3 x y t) (p q : Int) (h1 : a.eval x = .int .i64 p) (h2 : a.eval y = .int .i64 q) (b : Bool) (hb : decide (p = q) = !b) : StepOk Try.prog ops Q (Fact.is (.bool b)) o a w := by
  have hb' : b = !decide (p = q) := by rw [hb]; simp
  clear hb
  subst hb'
  refine ok_same hg _ ?_ rfl
  simp only [execOp, ho, h1, h2]
  go_simp
  try rfl
theorem ok_u8ne (hg : Region.wanted o (yielded ops a.tmps) = true) (x y : Operand) (t : TypeId) (ho : o.op = .binOp .neq 5 x y t) (p q : Int) (h1 : a.eval x = .int .u8 p) (h2 : a.eval y = .int .u8 q) (b : Bool) (hb : decide (p = q) = !b) : StepOk Try.prog ops Q (Fact.is (.bool b)) o a w := by
  have hb' : b = !decide (p = q) := by rw [hb]; simp
  clear hb
  subst hb'
  refine ok_same hg _ ?_ rfl
  simp only [execOp, ho, h1, h2]
  go_simp
  try rfl
theorem map4 {x y z u : Operand} {x' y' z' u' : Value} (h : a.eval x = x') (h' : a.eval y = y') (h'' : a.eval z = z') (h3 : a.eval u = u') : #[x, y, z, u].map a.eval = #[x', y', z', u'] := by simp [h, h', h'', h3]
end
end Go.Proofs.Ythpbhfepiekchaa

/- Facts for the law by an invariant, of texts: lengths, parts, joins, signs, order; small rows of bytes; parts of answers. Nothing here speaks of one function. -/
namespace Go.Proofs.Ythpbhfepiekchaa
open Go.ChangeShapes Go.WideShapes Go.ChangeAt Go.RowKit
set_option linter.unusedVariables false
set_option linter.unusedSimpArgs false

theorem strOf_data (s : ByteArray) : strOf s.data.toList = s := by cases s; simp [strOf]
theorem str_is (s : ByteArray) : ∃ l : List UInt8, s = strOf l ∧ l.length = s.size := ⟨s.data.toList, (strOf_data s).symm, by simp⟩
theorem strOf_append (a b : List UInt8) : strOf a ++ strOf b = strOf (a ++ b) := by
  have : (strOf a ++ strOf b).data = (strOf (a ++ b)).data := by simp [strOf, ByteArray.data_append]
  cases h : strOf a ++ strOf b
  cases h' : strOf (a ++ b)
  rw [h, h'] at this
  simp_all
theorem strOf_extract (l : List UInt8) (i j : Nat) : (strOf l).extract i j = strOf ((l.drop i).take (j - i)) := by
  have : ((strOf l).extract i j).data = (strOf ((l.drop i).take (j - i))).data := by
    rw [ByteArray.data_extract]
    apply Array.ext'
    simp [strOf]
  cases h : (strOf l).extract i j
  cases h' : strOf ((l.drop i).take (j - i))
  rw [h, h'] at this
  simp_all
theorem strOf_toList (l : List UInt8) : (strOf l).toList = l := by rw [ByteArray.toList_eq]; simp [strOf]
theorem strOf_get? (l : List UInt8) (i : Nat) : (strOf l)[i]? = l[i]? := by
  by_cases h : i < l.length
  · rw [getElem?_pos (strOf l) i (by rw [strOf_size]; exact h), List.getElem?_eq_getElem h]
    rfl
  · rw [getElem?_neg (strOf l) i (by rw [strOf_size]; exact h), List.getElem?_eq_none (by omega)]
theorem strOf_eq (a b : List UInt8) : decide (strOf a = strOf b) = decide (a = b) := decide_eq_decide.2 ⟨strOf_inj, congrArg _⟩
theorem run_index_str (w : World) (l : List UInt8) (k : IntKind) (i : Nat) (h : i < l.length) : (Instr.index 9 (.string (strOf l)) (.int k (i : Int))).run Try.prog w = .ok (.int .u8 ((l[i]).toNat : Int)) w := by
  have e : (strOf l)[i]? = some l[i] := by rw [strOf_get?, List.getElem?_eq_getElem h]
  simp [Instr.index, run_underlying Try.underlying9, asIntOf, e]
theorem run_slice_str (w : World) (l : List UInt8) (lo hi : Option Value) (k k' : IntKind) (i j : Nat) (hlo : lo = none ∧ i = 0 ∨ lo = some (.int k (i : Int))) (hhi : hi = none ∧ j = l.length ∨ hi = some (.int k' (j : Int))) (h1 : i ≤ j) (h2 : j ≤ l.length) :
    (Instr.slice 9 (.string (strOf l)) lo hi none).run Try.prog w = .ok (.string (strOf ((l.drop i).take (j - i)))) w := by
  have hs := strOf_size l
  rcases hlo with ⟨rfl, rfl⟩ | rfl <;> rcases hhi with ⟨rfl, rfl⟩ | rfl
  all_goals
    simp [Instr.slice, Instr.sliceBounds, Instr.sliceBound, asIntOf, run_underlying Try.underlying9, hs, h1, h2, strOf_extract]
section
variable {ops : Array Oper} {Q : Exit → Act → World → Prop} {G : Fact} {o : Oper} {a : Act} {w : World}
theorem ok_strlen (hg : Region.wanted o (yielded ops a.tmps) = true) (x : Operand) (ho : o.op = .call { callee := .builtin .len, args := #[x], argTypes := #[9] }) (l : List UInt8) (hx : a.eval x = .string (strOf l)) : StepOk Try.prog ops Q (Fact.is (.int .i64 (l.length : Int))) o a w :=
  ok_same hg _ (by
    have hr : (Builtin.len_ #[9] o.type #[.string (strOf l)]).run Try.prog w = .ok (.int .i64 (l.length : Int)) w := by simp [Builtin.len_, run_underlying Try.underlying9, strOf_size]; rfl
    simp [execOp, ho, resolve, invoke, builtin, hx, hr]) rfl
theorem ok_strcat (hg : Region.wanted o (yielded ops a.tmps) = true) (x y : Operand) (t : TypeId) (ho : o.op = .binOp .add 9 x y t) (l l' r : List UInt8) (h1 : a.eval x = .string (strOf l)) (h2 : a.eval y = .string (strOf l')) (hl : l.length + l'.length ≤ 1000000) (hr : l ++ l' = r) : StepOk Try.prog ops Q (Fact.str r) o a w := by
  subst hr
  have e1 := strOf_size l
  have e2 := strOf_size l'
  refine ok_same hg (.string (strOf (l ++ l'))) ?_ rfl
  simp only [execOp, ho, h1, h2]
  go_simp
  rw [if_neg (by omega), strOf_append]
theorem ok_strlt (hg : Region.wanted o (yielded ops a.tmps) = true) (x y : Operand) (t : TypeId) (ho : o.op = .binOp .lss 9 x y t) (l l' : List UInt8) (h1 : a.eval x = .string (strOf l)) (h2 : a.eval y = .string (strOf l')) (b : Bool) (hb : Op.bytesLess l l' = b) : StepOk Try.prog ops Q (Fact.is (.bool b)) o a w := by
  subst hb
  refine ok_same hg _ ?_ rfl
  simp only [execOp, ho, h1, h2]
  go_simp
  rw [strOf_toList, strOf_toList]
theorem ok_strindex (hg : Region.wanted o (yielded ops a.tmps) = true) (x y : Operand) (ho : o.op = .index 9 x y) (l : List UInt8) (k : IntKind) (i : Nat) (h1 : a.eval x = .string (strOf l)) (h2 : a.eval y = .int k (i : Int)) (c : UInt8) (hc : l[i]? = some c) : StepOk Try.prog ops Q (Fact.is (.int .u8 (c.toNat : Int))) o a w := by
  obtain ⟨hi, rfl⟩ := List.getElem?_eq_some_iff.1 hc
  exact ok_same hg _ (by simp [execOp, ho, h1, h2, run_index_str w l k i hi]) rfl
theorem ok_strslice (hg : Region.wanted o (yielded ops a.tmps) = true) (x : Operand) (lo hi : Option Operand) (ho : o.op = .slice 9 x lo hi none) (l : List UInt8) (k k' : IntKind) (i j : Nat) (h1 : a.eval x = .string (strOf l)) (hlo : lo.map a.eval = none ∧ i = 0 ∨ lo.map a.eval = some (.int k (i : Int))) (hhi : hi.map a.eval = none ∧ j = l.length ∨ hi.map a.eval = some (.int k' (j : Int))) (hij : i ≤ j) (hj : j ≤ l.length) (r : List UInt8) (hr : (l.drop i).take (j - i) = r) : StepOk Try.prog ops Q (Fact.str r) o a w := by
  subst hr
  exact ok_same hg (.string (strOf ((l.drop i).take (j - i)))) (by simp [execOp, ho, h1, Instr.sliceAt, run_slice_str w l _ _ k k' i j hlo hhi hij hj]) rfl
/-- s[:j] -/
theorem ok_strHi (hg : Region.wanted o (yielded ops a.tmps) = true) (x y : Operand) (ho : o.op = .slice 9 x none (some y) none) (l : List UInt8) (j : Nat) (h1 : a.eval x = .string (strOf l)) (h2 : a.eval y = .int .i64 (j : Int)) (hj : j ≤ l.length) : StepOk Try.prog ops Q (Fact.str (l.take j)) o a w :=
  ok_strslice hg x none (some y) ho l .i64 .i64 0 j h1 (.inl ⟨rfl, rfl⟩) (.inr (by simp [h2])) (by omega) hj _ (by simp)
/-- s[i:] -/
theorem ok_strLo (hg : Region.wanted o (yielded ops a.tmps) = true) (x y : Operand) (ho : o.op = .slice 9 x (some y) none none) (l : List UInt8) (i : Nat) (h1 : a.eval x = .string (strOf l)) (h2 : a.eval y = .int .i64 (i : Int)) (hi : i ≤ l.length) : StepOk Try.prog ops Q (Fact.str (l.drop i)) o a w :=
  ok_strslice hg x (some y) none ho l .i64 .i64 i l.length h1 (.inr (by simp [h2])) (.inl ⟨rfl, rfl⟩) hi (Nat.le_refl _) _ (List.take_of_length_le (by simp))
/-- s[i:j] -/
theorem ok_strMid (hg : Region.wanted o (yielded ops a.tmps) = true) (x y z : Operand) (ho : o.op = .slice 9 x (some y) (some z) none) (l : List UInt8) (k k' : IntKind) (i j : Nat) (h1 : a.eval x = .string (strOf l)) (h2 : a.eval y = .int k (i : Int)) (h3 : a.eval z = .int k' (j : Int)) (hij : i ≤ j) (hj : j ≤ l.length) (r : List UInt8) (hr : (l.drop i).take (j - i) = r) : StepOk Try.prog ops Q (Fact.str r) o a w :=
  ok_strslice hg x (some y) (some z) ho l k k' i j h1 (.inr (by simp [h2])) (.inr (by simp [h3])) hij hj r hr
theorem ok_extract (hg : Region.wanted o (yielded ops a.tmps) = true) (x : Operand) (i : Nat) (ho : o.op = .extract x i) (vs : Array Value) (h1 : a.eval x = .tuple vs) (v : Value) (hv : vs[i]? = some v) : StepOk Try.prog ops Q (Fact.is v) o a w := by
  refine ok_same hg _ ?_ rfl
  simp only [execOp, ho, h1]
  go_simp
theorem ok_buildB (hg : Region.wanted o (yielded ops a.tmps) = true) (n : Nat) (parts : Array (Nat × Operand)) (ho : o.op = .buildSlice 22 n parts) (bs : List UInt8) (hn : bs.length = n) (hm : n ≤ 1000)
    (hr : (Instr.buildSlice 22 n (parts.map fun (i, x) => (i, a.eval x))).run Try.prog w = .ok (.slice (some ⟨w.heap.size, 0, none⟩) n n) (w.alloc (.cells (cellsOf bs).toArray 5))) : StepOk Try.prog ops Q (Fact.piece bs) o a w := by
  subst hn
  exact ok_run hg _ _ (by simp [execOp, ho, hr]) ⟨_, bs.length, rfl, piece_lit _ w.heap.size (cellsOf bs).toArray 5 bs bs.length (0, 0) (heap_alloc_new w _) (by simp [List.take_of_length_le, cellsOf_length]) (Nat.le_refl _) (by omega)⟩ (below_one (Below.refl _ _) _)
theorem run_buildB1 (w : World) (x : Int) : (Instr.buildSlice 22 1 #[(0, .int .u8 x)]).run Try.prog w = .ok (.slice (some ⟨w.heap.size, 0, none⟩) 1 1) (w.alloc (.cells #[.int .u8 x] 5)) := by
  go_simp
theorem run_buildB2 (w : World) (x y : Int) : (Instr.buildSlice 22 2 #[(0, .int .u8 x), (1, .int .u8 y)]).run Try.prog w = .ok (.slice (some ⟨w.heap.size, 0, none⟩) 2 2) (w.alloc (.cells #[.int .u8 x, .int .u8 y] 5)) := by
  go_simp
theorem ok_buildB1 (hg : Region.wanted o (yielded ops a.tmps) = true) (x : Operand) (ho : o.op = .buildSlice 22 1 #[(0, x)]) (c : UInt8) (h1 : a.eval x = .int .u8 (c.toNat : Int)) : StepOk Try.prog ops Q (Fact.piece [c]) o a w :=
  ok_buildB hg 1 _ ho [c] rfl (by omega) (by simp only [List.map_toArray, List.map, h1]; exact run_buildB1 w _)
theorem ok_buildB2 (hg : Region.wanted o (yielded ops a.tmps) = true) (x y : Operand) (ho : o.op = .buildSlice 22 2 #[(0, x), (1, y)]) (c d : UInt8) (h1 : a.eval x = .int .u8 (c.toNat : Int)) (h2 : a.eval y = .int .u8 (d.toNat : Int)) : StepOk Try.prog ops Q (Fact.piece [c, d]) o a w :=
  ok_buildB hg 2 _ ho [c, d] rfl (by omega) (by simp only [List.map_toArray, List.map, h1, h2]; exact run_buildB2 w _ _)
theorem ok_bin (hg : Region.wanted o (yielded ops a.tmps) = true) (op : BinOp) (t t' : TypeId) (x y : Operand) (ho : o.op = .binOp op t x y t') (p q v : Value) (h1 : a.eval x = p) (h2 : a.eval y = q) (he : (op == .eql || op == .neq) = false) (hr : ∀ w, (binOp op t p q).run Try.prog w = .ok v w) : StepOk Try.prog ops Q (Fact.is v) o a w := by
  subst h1 h2
  exact ok_same hg _ (by
    have e : (eqGuard op t x y (a.eval x) (a.eval y)).run Try.prog w = .ok () w := by cases op <;> first | rfl | cases he
    simp [execOp, ho, hr, e]) rfl
/-- an answer of two values, the second a bool -/
def Fact.two (b : Bool) : Fact := ⟨fun v _ => ∃ x, v = .tuple #[x, .bool b], fun _ _ _ h _ => h⟩
theorem ok_two0 (hg : Region.wanted o (yielded ops a.tmps) = true) (x : Operand) (ho : o.op = .extract x 0) (b : Bool) (h1 : (Fact.two b).p (a.eval x) w) : StepOk Try.prog ops Q Fact.any o a w := by
  obtain ⟨u, hu⟩ := h1
  refine ok_same hg u ?_ trivial
  simp only [execOp, ho, hu]
  go_simp
theorem ok_two1 (hg : Region.wanted o (yielded ops a.tmps) = true) (x : Operand) (ho : o.op = .extract x 1) (b : Bool) (h1 : (Fact.two b).p (a.eval x) w) : StepOk Try.prog ops Q (Fact.is (.bool b)) o a w := by
  obtain ⟨u, hu⟩ := h1
  refine ok_same hg (.bool b) ?_ rfl
  simp only [execOp, ho, hu]
  go_simp
theorem ok_min3 (hg : Region.wanted o (yielded ops a.tmps) = true) (x y z : Operand) (ts : Array TypeId) (ho : o.op = .call { callee := .builtin .min, args := #[x, y, z], argTypes := ts }) (p q s r : Int) (h1 : a.eval x = .int .i64 p) (h2 : a.eval y = .int .i64 q) (h3 : a.eval z = .int .i64 s) (hr : (if s < (if q < p then q else p) then s else (if q < p then q else p)) = r) : StepOk Try.prog ops Q (Fact.is (.int .i64 r)) o a w := by
  subst hr
  refine ok_same hg _ ?_ rfl
  simp [execOp, ho, resolve, invoke, builtin, h1, h2, h3, Builtin.min_, Builtin.min2]
theorem ok_any (hg : Region.wanted o (yielded ops a.tmps) = true) (F : Fact) (h : StepOk Try.prog ops Q F o a w) : StepOk Try.prog ops Q Fact.any o a w := by
  unfold StepOk at h ⊢
  rw [if_pos hg] at h ⊢
  exact Oper.wp_mono (fun a' w' ⟨v, h1, _, h3⟩ => ⟨v, h1, trivial, h3⟩) h
end
theorem Fact.any_p (v : Value) (w : World) : Fact.any.p v w := trivial
end Go.Proofs.Ythpbhfepiekchaa
