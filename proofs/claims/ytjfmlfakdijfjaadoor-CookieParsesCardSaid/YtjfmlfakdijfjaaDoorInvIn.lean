/- The law for regions whose order is open, by an invariant (Inv), inside the wide fence, in a round of a range over a function too. -/
import Derived.Test.YtjfmlfakdijfjaaDoorStrFacts
import Derived.OrdersIn
import Derived.TacticsIn
namespace Go.Proofs.YtjfmlfakdijfjaaDoor
open Go.ChangeShapes Go.WideShapes Go.ChangeAt Go.RowKit
set_option linter.unusedVariables false

/-- the wide fence, in a round or not -/
def Wide (F : Fence) : Prop := F = Fence.wide ∨ ∃ l, F = Fence.wide.inRound l
theorem Wide.wide : Wide Fence.wide := .inl rfl
theorem Wide.round (l : Nat) : Wide (Fence.wide.inRound l) := .inr ⟨l, rfl⟩
def NoDefer (ops : Array Oper) : Prop := ∀ (i : Nat) (o : Oper), ops[i]? = some o → ∀ c, o.op ≠ .defer c
def isDefer : Op → Bool
  | .defer _ => true
  | _ => false
def noDeferB (l : List Oper) : Bool := l.all fun o => !isDefer o.op
theorem noDefer_of {l : List Oper} (h : noDeferB l = true) : NoDefer l.toArray := fun i o ho c hc => by
  unfold noDeferB at h
  have := List.all_eq_true.1 h o (List.mem_of_getElem? (by simpa using ho))
  rw [hc] at this
  cases this

section
variable {FF : Fence} {m : Nat} {P : Program} {ops : Array Oper} {Q : Exit → Act → World → Prop} {F : List Fact} {a0 : Act} {w0 : World}
theorem Wide.fn (h : Wide FF) (f : FuncId) : FF.fn f := by
  rcases h with rfl | ⟨l, rfl⟩ <;> trivial
theorem Wide.calls (h : Wide FF) {f : FuncId} {args : Array Value} {w : World} {R : Ending → World → Prop} (hc : Calls P f args w R) : CallsIn FF m P f args w R := by
  rcases h with rfl | ⟨l, rfl⟩
  · exact callsIn_wide.2 hc
  · exact (callsIn_wide (n := m)).2 hc
theorem Wide.rows (h : Wide FF) {row : String} {args : Array Value} {w : World} {R : Value → World → Prop} (hc : Rows P row args w R) : RowsIn FF m P row args w R := by
  have h0 : RowsIn Fence.wide m P row args w R := fun c cs _ => by
    obtain ⟨v, w', r, s⟩ := hc c cs
    exact ⟨v, w', r, stepsIn_wide.2 s⟩
  rcases h with rfl | ⟨l, rfl⟩
  · exact h0
  · exact h0
theorem Wide.depth (h : Wide FF) : FF.depth.isSome = true → 1 ≤ m := by
  rcases h with rfl | ⟨l, rfl⟩ <;> (intro hh; cases hh)
theorem Wide.sem (h : Wide FF) (o : Oper) (hd : ∀ c, o.op ≠ .defer c) (ρ : Operand → Value) : Oper.semAt FF.round ρ o = execOp ρ o := Oper.semAt_eq _ _ _ hd
theorem wpIn_of_wp (h : Wide FF) {o : Oper} (hd : ∀ c, o.op ≠ .defer c) {a : Act} {w : World} {K : Act → World → Prop} (hw : o.wp P a w K Q) : o.wpIn FF m P a w K Q := by
  unfold Oper.wp at hw
  refine ⟨fun f _ => h.fn f, ?_⟩
  rw [h.sem o hd]
  generalize (execOp a.eval o).run P w = r at *
  cases r with
  | ok x w' => cases x <;> simp only [Oper.upon, Oper.uponIn] at hw ⊢ <;> first | exact hw | exact ⟨h.depth, h.calls hw⟩ | exact ⟨h.depth, h.rows hw⟩ | exact hw.elim
  | halt x w' => cases x <;> simp only [Oper.upon, Oper.uponIn] at hw ⊢ <;> exact hw
theorem StepOk.wpOpIn (hW : Wide FF) (hD : NoDefer ops) {K : Act → World → Prop} {G : Fact} {i : Nat} {o : Oper} {a : Act} {w : World} (ho : ops[i]? = some o) (h : StepOk P ops Q G o a w)
    (hK : ∀ v w', G.p v w' → Grew w w' → K (a.put o.dst v) w') : wpOpIn FF m P ops Q i K a w := by
  unfold Go.wpOpIn
  simp only [ho]
  unfold StepOk at h
  split
  · rename_i hw
    rw [if_pos hw] at h
    refine wpIn_of_wp hW (hD i o ho) (Oper.wp_mono (fun a' w' hh => ?_) h)
    obtain ⟨v, rfl, h1, h2⟩ := hh
    exact hK v w' h1 h2
  · rename_i hw
    rw [if_neg hw] at h
    exact ⟨fun f _ => hW.fn f, hK undef w h (Grew.refl w)⟩

theorem wpAnyIn_mids {n : Nat} (hW : Wide FF) (hD : NoDefer ops) (hB : invB ops n = true) (hn : a0.tmps.size = n) (hs : StepsOk P ops Q F a0 w0 0 ops.toList)
    (hend : ∀ (f : Nat → Value) w, Grew w0 w → (∀ j, j < ops.size → (factAt F j).p (f j) w) → Q .normal (putAll f 0 ops.toList a0) w) :
    ∀ (fuel : Nat) (listed : Array Bool) (a : Act) (w : World), Midst ops F a0 w0 listed a w → (listed.toList.countP fun b => !b) ≤ fuel → wpAnyIn FF m P .any ops Q fuel listed a w := by
  have fin : ∀ (listed : Array Bool) (a : Act) (w : World), Midst ops F a0 w0 listed a w → Region.ready .any ops listed = [] → Q .normal a w := fun listed a w m hr => by
    obtain ⟨f, rfl, hf⟩ := m.done hB hn hr
    exact hend f w m.grew hf
  intro fuel
  induction fuel with
  | zero =>
    intro listed a w m hc
    have hr : Region.ready .any ops listed = [] := by
      cases he : Region.ready .any ops listed with
      | nil => rfl
      | cons i l =>
        exfalso
        have hi : i ∈ Region.ready .any ops listed := by rw [he]; simp
        obtain ⟨hun, o, ho, _⟩ := mem_ready.1 hi
        have hil : i < listed.size := by rw [m.lsize]; exact (Array.getElem?_eq_some_iff.1 ho).1
        have h1 : (0 : Nat) < listed.toList.countP fun b => !b := List.countP_pos_iff.2 ⟨listed[i], by simp, by simpa [Array.getD, hil] using hun⟩
        omega
    exact ⟨hr, fin listed a w m hr⟩
  | succ fuel ih =>
    intro listed a w m hc
    refine ⟨fin listed a w m, fun i hi => ?_⟩
    obtain ⟨hun, o, ho, _⟩ := mem_ready.1 hi
    have hil : i < listed.size := by rw [m.lsize]; exact (Array.getElem?_eq_some_iff.1 ho).1
    have hst := hs.at i o (by simpa using ho) a w (by rw [Nat.zero_add]; exact m.mids hi)
    rw [Nat.zero_add] at hst
    refine hst.wpOpIn hW hD ho fun v w' hv hg => ih _ _ _ (m.next hB hn ho hi hv hg) ?_
    have hu : listed[i] = false := by simpa [Array.getD, hil] using hun
    have e1 : (listed.setIfInBounds i true).toList = listed.toList.set i true := by simp
    have h2 := List.countP_set (p := fun b => !b) (l := listed.toList) (i := i) (a := true) (by simpa using hil)
    rw [e1, h2]
    have h3 : (0 : Nat) < listed.toList.countP fun b => !b := List.countP_pos_iff.2 ⟨listed[i], by simp, by simp [hu]⟩
    have h4 : (if (!listed.toList[i]'(by simpa using hil)) = true then 1 else 0) = 1 := by simp [hu]
    rw [h4, if_neg (by simp)]
    omega

/-- A region whose order is open. -/
theorem region_inv_in (hW : Wide FF) (F : List Fact) {id : Nat} (hm : P.follows .mixedOrders = true) {l : List Oper} (hD : noDeferB l = true) (hB : invB l.toArray a0.tmps.size = true) (hs : StepsOk P l.toArray Q F a0 w0 0 l)
    (hend : ∀ (f : Nat → Value) w, Grew w0 w → (∀ j, j < l.length → (factAt F j).p (f j) w) → Q .normal (putAll f 0 l a0) w) : (Code.region id l.toArray true).wpIn FF m P Q a0 w0 :=
  wpIn_region_any hm (wpAnyIn_mids hW (noDefer_of hD) (w0 := w0) hB rfl (by simpa using hs) (by simpa using hend) _ _ _ _ (midst_start _ ⟨rfl, rfl, rfl, Nat.le_refl _, fun _ _ => rfl⟩) (by
    have := List.countP_le_length (p := fun b => !b) (l := (Array.replicate l.toArray.size false).toList)
    simpa using this))

/-- behind the front the rest goes in the text's order -/
theorem wpAnyIn_rest {k : Nat} (hT : tailB ops k = true) (hsz : k ≤ ops.size) : ∀ (r i : Nat) (fuel : Nat) (listed : Array Bool) (a : Act) (w : World), i + r = ops.size → k ≤ i → r ≤ fuel → listed.size = ops.size → (∀ j, listed.getD j false = decide (j < i)) →
    (∀ (j : Nat) (o : Oper), ops[j]? = some o → ∀ e ∈ o.after, Region.binds .any e = true → e.on < j) → wpListIn FF m P ops Q (ops.toList.drop i) a w → wpAnyIn FF m P .any ops Q fuel listed a w := by
  intro r
  induction r with
  | zero =>
    intro i fuel listed a w hir hki hf hls hl hback h
    have hr : Region.ready .any ops listed = [] := by
      cases he : Region.ready .any ops listed with
      | nil => rfl
      | cons x xs =>
        exfalso
        have hx : x ∈ Region.ready .any ops listed := by rw [he]; simp
        obtain ⟨hun, o, ho, _⟩ := mem_ready.1 hx
        have hxs := (Array.getElem?_eq_some_iff.1 ho).1
        have h1 := hl x
        have h2 : listed.getD x false = false := by
          have hxl : x < listed.size := by omega
          simpa [Array.getD, hxl] using hun
        rw [h2] at h1
        have : x < i := by omega
        simp [this] at h1
    rw [List.drop_of_length_le (by simp; omega)] at h
    exact wpAnyIn_done hr h fuel
  | succ r ih =>
    intro i fuel listed a w hir hki hf hls hl hback h
    have hi : i < ops.size := by omega
    have ho : ops[i]? = some ops[i] := Array.getElem?_eq_getElem hi
    obtain ⟨fuel, rfl⟩ : ∃ f, fuel = f + 1 := ⟨fuel - 1, by omega⟩
    have hil : i < listed.size := by omega
    have hrd : i ∈ Region.ready .any ops listed := mem_ready.2 ⟨by
      have h1 := hl i
      simp only [Nat.lt_irrefl, decide_false] at h1
      simpa [Array.getD, hil] using h1, _, ho, fun e he hb => by
      rw [hl]
      exact decide_eq_true (hback i _ ho e he hb)⟩
    refine ⟨fun h0 => absurd hrd (by rw [h0]; simp), fun x hx => ?_⟩
    have hxi : x = i := by
      obtain ⟨hun, o, hox, hall⟩ := mem_ready.1 hx
      have hxs := (Array.getElem?_eq_some_iff.1 hox).1
      have hxl : x < listed.size := by omega
      have h1 := hl x
      have h2 : listed.getD x false = false := by simpa [Array.getD, hxl] using hun
      rw [h2] at h1
      have hge : i ≤ x := by
        rcases Nat.lt_or_ge x i with h3 | h3
        · simp [h3] at h1
        · exact h3
      rcases Nat.lt_or_ge i x with h3 | h3
      · exfalso
        unfold tailB at hT
        have h4 := List.all_eq_true.1 hT x (List.mem_range.2 hxs)
        have h5 : ¬ x < k := by omega
        simp only [h5, decide_false, Bool.false_or] at h4
        have h6 := List.all_eq_true.1 h4 i (List.mem_range.2 h3)
        have h7 : i ∈ coverAt ops x := by simpa using h6
        have m : Midst ops [] a w listed a w := ⟨rfl, rfl, hls, Grew.refl w, fun j d _ _ => by show (factAt [] j).p _ _; exact trivial, fun j _ _ => ⟨undef, by show (factAt [] j).p _ _; exact trivial⟩, fun _ _ => rfl, fun j o hj hlj e he hbe => by
          rw [hl] at hlj ⊢
          have h8 := hback j o hj e he hbe
          have : j < i := by simpa using hlj
          exact decide_eq_true (by omega)⟩
        have h8 := cover_listed m hx h7
        rw [hl] at h8
        simp at h8
      · omega
    subst hxi
    rw [List.drop_eq_getElem_cons (by simpa using hi), Array.getElem_toList] at h
    unfold Go.wpOpIn
    simp only [ho]
    unfold wpListIn at h
    have hK : ∀ a' w', wpListIn FF m P ops Q (ops.toList.drop (x + 1)) a' w' → wpAnyIn FF m P .any ops Q fuel (listed.setIfInBounds x true) a' w' := fun a' w' hh =>
      ih (x + 1) fuel _ a' w' (by omega) (by omega) (by omega) (by simp [hls]) (fun j => by
        rw [getD_set _ _ _ hil, hl]
        by_cases hij : x = j
        · subst hij; simp
        · rw [if_neg hij]
          congr 1
          exact propext ⟨fun h => by omega, fun h => by omega⟩) hback hh
    split
    · rename_i hw
      rw [if_pos hw] at h
      exact Oper.wpIn_mono hK h
    · rename_i hw
      rw [if_neg hw] at h
      exact ⟨h.1, hK _ _ h.2⟩

theorem wpAnyIn_front {n k : Nat} (hW : Wide FF) (hD : NoDefer ops) (hB : invB ops n = true) (hn : a0.tmps.size = n) (hk : k ≤ ops.size) (hT : tailB ops k = true) (hs : StepsOk P ops Q F a0 w0 0 (ops.toList.take k))
    (hend : ∀ (f : Nat → Value) w, Grew w0 w → (∀ j, j < k → (factAt F j).p (f j) w) → wpListIn FF m P ops Q (ops.toList.drop k) (putAll f 0 (ops.toList.take k) a0) w) :
    ∀ (fuel : Nat) (listed : Array Bool) (a : Act) (w : World), Midst ops F a0 w0 listed a w → (∀ j, k ≤ j → listed.getD j false = false) → (listed.toList.countP fun b => !b) ≤ fuel → wpAnyIn FF m P .any ops Q fuel listed a w := by
  have cnt : ∀ (listed : Array Bool) (i : Nat) (h : i < listed.size), listed[i] = false → (listed.toList.countP fun b => !b) = ((listed.setIfInBounds i true).toList.countP fun b => !b) + 1 := fun listed i hil hu => by
    have e1 : (listed.setIfInBounds i true).toList = listed.toList.set i true := by simp
    have h2 := List.countP_set (p := fun b => !b) (l := listed.toList) (i := i) (a := true) (by simpa using hil)
    have h3 : (0 : Nat) < listed.toList.countP fun b => !b := List.countP_pos_iff.2 ⟨listed[i], by simp, by simp [hu]⟩
    have h4 : (if (!listed.toList[i]'(by simpa using hil)) = true then 1 else 0) = 1 := by simp [hu]
    rw [e1, h2, h4, if_neg (by simp)]
    omega
  have cntN : ∀ (n : Nat) (listed : Array Bool) (k : Nat), listed.size = n → k ≤ n → (∀ j, listed.getD j false = decide (j < k)) → n - k ≤ listed.toList.countP fun b => !b := fun n listed k hs hk' hl => by
    have : listed.toList = List.replicate k true ++ List.replicate (n - k) false := by
      refine List.ext_getElem (by simp; omega) fun i h1 h2 => ?_
      have h3 := hl i
      have h4 : i < listed.size := by simpa using h1
      simp only [Array.getD, h4, dif_pos] at h3
      have h5 : listed[i] = decide (i < k) := by simpa using h3
      rw [Array.getElem_toList, h5, List.getElem_append]
      split
      · rename_i h6
        have : i < k := by simpa using h6
        simp [this]
      · rename_i h6
        have : ¬ i < k := by simpa using h6
        simp [this]
    rw [this, List.countP_append]
    simp [List.countP_replicate]
  have fin : ∀ (fuel : Nat) (listed : Array Bool) (a : Act) (w : World), Midst ops F a0 w0 listed a w → (∀ j, k ≤ j → listed.getD j false = false) → (listed.toList.countP fun b => !b) ≤ fuel → (∀ j, j < k → listed.getD j false = true) → wpAnyIn FF m P .any ops Q fuel listed a w := fun fuel listed a w m hno hc hall => by
    obtain ⟨f, rfl, hf⟩ := m.front hB k hk hall hno
    have hl : ∀ j, listed.getD j false = decide (j < k) := fun j => by
      rcases Nat.lt_or_ge j k with h | h
      · rw [hall j h]; simp [h]
      · have : ¬ j < k := by omega
        rw [hno j h]; simp [this]
    refine wpAnyIn_rest hT hk (ops.size - k) k fuel listed _ w (by omega) (Nat.le_refl _) ?_ m.lsize hl (fun j o ho e he hbe => (inv_spec hB ho).2.2 e he hbe) (hend f w m.grew hf)
    have := cntN ops.size listed k m.lsize hk hl
    omega
  intro fuel
  induction fuel with
  | zero =>
    intro listed a w m hno hc
    refine fin 0 listed a w m hno hc fun j hj => ?_
    cases hl : listed.getD j false with
    | true => rfl
    | false =>
      exfalso
      have hjl : j < listed.size := by rw [m.lsize]; omega
      have h1 : (0 : Nat) < listed.toList.countP fun b => !b := List.countP_pos_iff.2 ⟨listed[j], by simp, by simpa [Array.getD, hjl] using hl⟩
      omega
  | succ fuel ih =>
    intro listed a w m hno hc
    by_cases hall : ∀ j, j < k → listed.getD j false = true
    · exact fin _ listed a w m hno hc hall
    · have hnf : ∀ x, x ∈ Region.ready .any ops listed → x < k := fun x hx => by
        rcases Nat.lt_or_ge x k with h | h
        · exact h
        · exfalso
          refine hall fun j hj => ?_
          obtain ⟨_, o, ho, _⟩ := mem_ready.1 hx
          have hxs := (Array.getElem?_eq_some_iff.1 ho).1
          unfold tailB at hT
          have h4 := List.all_eq_true.1 hT x (List.mem_range.2 hxs)
          have h5 : ¬ x < k := by omega
          simp only [h5, decide_false, Bool.false_or] at h4
          have h6 := List.all_eq_true.1 h4 j (List.mem_range.2 (by omega))
          exact cover_listed m hx (by simpa using h6)
      refine ⟨fun hr => ?_, fun i hi => ?_⟩
      · exact absurd (fun j hj => m.all hB hr j (by omega)) hall
      · obtain ⟨hun, o, ho, _⟩ := mem_ready.1 hi
        have hik := hnf i hi
        have hil : i < listed.size := by rw [m.lsize]; exact (Array.getElem?_eq_some_iff.1 ho).1
        have hst := hs.at i o (by rw [List.getElem?_take, if_pos hik]; simpa using ho) a w (by rw [Nat.zero_add]; exact m.mids hi)
        rw [Nat.zero_add] at hst
        refine hst.wpOpIn hW hD ho fun v w' hv hg => ih _ _ _ (m.next hB hn ho hi hv hg) (fun j hj => ?_) ?_
        · rw [getD_set _ _ _ hil, if_neg (by omega)]; exact hno j hj
        · have hu : listed[i] = false := by simpa [Array.getD, hil] using hun
          have := cnt listed i hil hu
          omega
/-- A region whose order is open, but for its last operations, each of which waits for all ahead of it: they are walked as they stand. -/
theorem region_tail_in (hW : Wide FF) (k : Nat) (F : List Fact) {id : Nat} (hm : P.follows .mixedOrders = true) {l : List Oper} (hD : noDeferB l = true) (hB : invB l.toArray a0.tmps.size = true) (hT : (tailB l.toArray k && decide (k ≤ l.length)) = true) (hs : StepsOk P l.toArray Q F a0 w0 0 (l.take k))
    (hend : ∀ (f : Nat → Value) w, Grew w0 w → (∀ j, j < k → (factAt F j).p (f j) w) → wpListIn FF m P l.toArray Q (l.drop k) (putAll f 0 (l.take k) a0) w) : (Code.region id l.toArray true).wpIn FF m P Q a0 w0 := by
  rw [Bool.and_eq_true, decide_eq_true_eq] at hT
  refine wpIn_region_any hm (wpAnyIn_front hW (noDefer_of hD) (w0 := w0) hB rfl (by simpa using hT.2) hT.1 (by simpa using hs) (by simpa using hend) _ _ _ _ (midst_start _ ⟨rfl, rfl, rfl, Nat.le_refl _, fun _ _ => rfl⟩) (fun j _ => ?_) ?_)
  · by_cases h : j < l.toArray.size
    · simp [Array.getD]
    · simp [Array.getD]
  · have := List.countP_le_length (p := fun b => !b) (l := (Array.replicate l.toArray.size false).toList)
    simpa using this


end
end Go.Proofs.YtjfmlfakdijfjaaDoor
