/- XInv's law for regions with one quiet operation that no store waits for: it is taken as soon as it can be. -/
import Derived.Test.YthpbhfepiekchaaStrFacts
namespace Go.Proofs.Ythpbhfepiekchaa
open Go.ChangeShapes Go.WideShapes Go.ChangeAt Go.RowKit
set_option linter.unusedVariables false
/-- each operation from k on waits for all ahead of it but p -/
def tailX (ops : Array Oper) (k p : Nat) : Bool := (List.range ops.size).all fun i => decide (i < k) || (List.range i).all fun j => j == p || (coverAt ops i).contains j
/-- what p waits for -/
def coverL (ops : Array Oper) (p : Nat) : Array Bool := ((List.range ops.size).map fun j => (coverAt ops p).contains j).toArray
section
variable {P : Program} {ops : Array Oper} {Q : Exit → Act → World → Prop} {F : List Fact} {a0 : Act} {w0 : World}
theorem wpAny_restX {k p : Nat} (hT : tailX ops k p = true) (hpk : p < k) (hsz : k ≤ ops.size) : ∀ (r i : Nat) (fuel : Nat) (listed : Array Bool) (a : Act) (w : World), i + r = ops.size → k ≤ i → r ≤ fuel → listed.size = ops.size → (∀ j, listed.getD j false = decide (j < i)) →
    (∀ (j : Nat) (o : Oper), ops[j]? = some o → ∀ e ∈ o.after, Region.binds .any e = true → e.on < j) → wpList P ops Q (ops.toList.drop i) a w → wpAny P .any ops Q fuel listed a w := by
  intro r
  induction r with
  | zero =>
    intro i fuel listed a w hir hki hf hls hl hback h
    have hr : Region.ready .any ops listed = [] := by
      cases he : Region.ready .any ops listed with
      | nil => rfl
      | cons x xs =>
        exfalso
        have hx : x ∈ Region.ready .any ops listed := by rw [he]; simp
        obtain ⟨hun, o, ho, _⟩ := mem_ready.1 hx
        have hxs := (Array.getElem?_eq_some_iff.1 ho).1
        have h1 := hl x
        have h2 : listed.getD x false = false := by
          have hxl : x < listed.size := by omega
          simpa [Array.getD, hxl] using hun
        rw [h2] at h1
        have : x < i := by omega
        simp [this] at h1
    rw [List.drop_of_length_le (by simp; omega)] at h
    exact wpAny_done hr h fuel
  | succ r ih =>
    intro i fuel listed a w hir hki hf hls hl hback h
    have hi : i < ops.size := by omega
    have ho : ops[i]? = some ops[i] := Array.getElem?_eq_getElem hi
    obtain ⟨fuel, rfl⟩ : ∃ f, fuel = f + 1 := ⟨fuel - 1, by omega⟩
    have hil : i < listed.size := by omega
    have hrd : i ∈ Region.ready .any ops listed := mem_ready.2 ⟨by
      have h1 := hl i
      simp only [Nat.lt_irrefl, decide_false] at h1
      simpa [Array.getD, hil] using h1, _, ho, fun e he hb => by
      rw [hl]
      exact decide_eq_true (hback i _ ho e he hb)⟩
    refine ⟨fun h0 => absurd hrd (by rw [h0]; simp), fun x hx => ?_⟩
    have hxi : x = i := by
      obtain ⟨hun, o, hox, hall⟩ := mem_ready.1 hx
      have hxs := (Array.getElem?_eq_some_iff.1 hox).1
      have hxl : x < listed.size := by omega
      have h1 := hl x
      have h2 : listed.getD x false = false := by simpa [Array.getD, hxl] using hun
      rw [h2] at h1
      have hge : i ≤ x := by
        rcases Nat.lt_or_ge x i with h3 | h3
        · simp [h3] at h1
        · exact h3
      rcases Nat.lt_or_ge i x with h3 | h3
      · exfalso
        unfold tailX at hT
        have h4 := List.all_eq_true.1 hT x (List.mem_range.2 hxs)
        have h5 : ¬ x < k := by omega
        simp only [h5, decide_false, Bool.false_or] at h4
        have h6 := List.all_eq_true.1 h4 i (List.mem_range.2 h3)
        have hip : (i == p) = false := by rw [beq_eq_false_iff_ne]; omega
        have h7 : i ∈ coverAt ops x := by simpa [hip] using h6
        have m : Midst ops [] a w listed a w := ⟨rfl, rfl, hls, Grew.refl w, fun j d _ _ => by show (factAt [] j).p _ _; exact trivial, fun j _ _ => ⟨undef, by show (factAt [] j).p _ _; exact trivial⟩, fun _ _ => rfl, fun j o hj hlj e he hbe => by
          rw [hl] at hlj ⊢
          have h8 := hback j o hj e he hbe
          have : j < i := by simpa using hlj
          exact decide_eq_true (by omega)⟩
        have h8 := cover_listed m hx h7
        rw [hl] at h8
        simp at h8
      · omega
    subst hxi
    rw [List.drop_eq_getElem_cons (by simpa using hi), Array.getElem_toList] at h
    unfold Go.wpOp
    simp only [ho]
    unfold wpList at h
    have hK : ∀ a' w', wpList P ops Q (ops.toList.drop (x + 1)) a' w' → wpAny P .any ops Q fuel (listed.setIfInBounds x true) a' w' := fun a' w' hh =>
      ih (x + 1) fuel _ a' w' (by omega) (by omega) (by omega) (by simp [hls]) (fun j => by
        rw [getD_set _ _ _ hil, hl]
        by_cases hij : x = j
        · subst hij; simp
        · rw [if_neg hij]
          congr 1
          exact propext ⟨fun h => by omega, fun h => by omega⟩) hback hh
    split
    · rename_i hw
      rw [if_pos hw] at h
      exact h.imp (Oper.wp_mono hK) id
    · rename_i hw
      rw [if_neg hw] at h
      exact hK _ _ h
theorem wpAny_frontX {n k p : Nat} {op : Oper} (hB : invB ops n = true) (hn : a0.tmps.size = n) (hk : k ≤ ops.size) (hpk : p < k) (hT : tailX ops k p = true) (hop : ops[p]? = some op) (hsel : Region.noSelect ops = true) (hfree : Region.free .any ops (coverL ops p) p = true)
    (hQ : ∀ v c a w, Q (.panic c) (a.put op.dst v) w → Q (.panic c) a w) (hy : ∀ a w, Mids ops F a0 w0 p a w → ∃ v, Yields P ops op v a ∧ (factAt F p).p v w) (hs : StepsOk P ops Q F a0 w0 0 (ops.toList.take k))
    (hend : ∀ (f : Nat → Value) w, Grew w0 w → (∀ j, j < k → (factAt F j).p (f j) w) → wpList P ops Q (ops.toList.drop k) (putAll f 0 (ops.toList.take k) a0) w) :
    ∀ (fuel : Nat) (listed : Array Bool) (a : Act) (w : World), Midst ops F a0 w0 listed a w → (∀ j, k ≤ j → listed.getD j false = false) → (listed.toList.countP fun b => !b) ≤ fuel → wpAny P .any ops Q fuel listed a w := by
  have cnt : ∀ (listed : Array Bool) (i : Nat) (h : i < listed.size), listed[i] = false → (listed.toList.countP fun b => !b) = ((listed.setIfInBounds i true).toList.countP fun b => !b) + 1 := fun listed i hil hu => by
    have e1 : (listed.setIfInBounds i true).toList = listed.toList.set i true := by simp
    have h2 := List.countP_set (p := fun b => !b) (l := listed.toList) (i := i) (a := true) (by simpa using hil)
    have h3 : (0 : Nat) < listed.toList.countP fun b => !b := List.countP_pos_iff.2 ⟨listed[i], by simp, by simp [hu]⟩
    have h4 : (if (!listed.toList[i]'(by simpa using hil)) = true then 1 else 0) = 1 := by simp [hu]
    rw [e1, h2, h4, if_neg (by simp)]
    omega
  have cntN : ∀ (n : Nat) (listed : Array Bool) (k : Nat), listed.size = n → k ≤ n → (∀ j, listed.getD j false = decide (j < k)) → n - k ≤ listed.toList.countP fun b => !b := fun n listed k hs hk' hl => by
    have : listed.toList = List.replicate k true ++ List.replicate (n - k) false := by
      refine List.ext_getElem (by simp; omega) fun i h1 h2 => ?_
      have h3 := hl i
      have h4 : i < listed.size := by simpa using h1
      simp only [Array.getD, h4, dif_pos] at h3
      have h5 : listed[i] = decide (i < k) := by simpa using h3
      rw [Array.getElem_toList, h5, List.getElem_append]
      split
      · rename_i h6
        have : i < k := by simpa using h6
        simp [this]
      · rename_i h6
        have : ¬ i < k := by simpa using h6
        simp [this]
    rw [this, List.countP_append]
    simp [List.countP_replicate]
  have fin : ∀ (fuel : Nat) (listed : Array Bool) (a : Act) (w : World), Midst ops F a0 w0 listed a w → (∀ j, k ≤ j → listed.getD j false = false) → (listed.toList.countP fun b => !b) ≤ fuel → (∀ j, j < k → listed.getD j false = true) → wpAny P .any ops Q fuel listed a w := fun fuel listed a w m hno hc hall => by
    obtain ⟨f, rfl, hf⟩ := m.front hB k hk hall hno
    have hl : ∀ j, listed.getD j false = decide (j < k) := fun j => by
      rcases Nat.lt_or_ge j k with h | h
      · rw [hall j h]; simp [h]
      · have : ¬ j < k := by omega
        rw [hno j h]; simp [this]
    refine wpAny_restX hT hpk hk (ops.size - k) k fuel listed _ w (by omega) (Nat.le_refl _) ?_ m.lsize hl (fun j o ho e he hbe => (inv_spec hB ho).2.2 e he hbe) (hend f w m.grew hf)
    have := cntN ops.size listed k m.lsize hk hl
    omega
  intro fuel
  induction fuel with
  | zero =>
    intro listed a w m hno hc
    refine fin 0 listed a w m hno hc fun j hj => ?_
    cases hl : listed.getD j false with
    | true => rfl
    | false =>
      exfalso
      have hjl : j < listed.size := by rw [m.lsize]; omega
      have h1 : (0 : Nat) < listed.toList.countP fun b => !b := List.countP_pos_iff.2 ⟨listed[j], by simp, by simpa [Array.getD, hjl] using hl⟩
      omega
  | succ fuel ih =>
    intro listed a w m hno hc
    by_cases hall : ∀ j, j < k → listed.getD j false = true
    · exact fin _ listed a w m hno hc hall
    by_cases hp : p ∈ Region.ready .any ops listed
    · obtain ⟨hun, _⟩ := mem_ready.1 hp
      have hpl : p < listed.size := by rw [m.lsize]; omega
      obtain ⟨v, hyv, hv⟩ := hy a w (m.mids hp)
      refine wpAny_first hop (Region.noSelect_spec hsel) (hQ v) fuel listed a w (fun j oj hj hne hu hno' => ?_) hp hyv ?_
      · refine Region.free_spec hop hfree j oj hj hne ?_ hno'
        have hjs := (Array.getElem?_eq_some_iff.1 hj).1
        have hjl : j < listed.size := by rw [m.lsize]; exact hjs
        have hnc : ¬ j ∈ coverAt ops p := fun hc => by
          have h1 := cover_listed m hp hc
          simp [Array.getD, hjl] at h1 hu
          rw [hu] at h1
          cases h1
        simp [coverL, hjs, hnc]
      · refine ih _ _ _ (m.next hB hn hop hp hv (Grew.refl w)) (fun j hj => ?_) ?_
        · rw [getD_set _ _ _ hpl, if_neg (by omega)]; exact hno j hj
        · have hu : listed[p] = false := by simpa [Array.getD, hpl] using hun
          have := cnt listed p hpl hu
          omega
    · have hnf : ∀ x, x ∈ Region.ready .any ops listed → x < k := fun x hx => by
        rcases Nat.lt_or_ge x k with h | h
        · exact h
        · exfalso
          obtain ⟨_, o, ho, _⟩ := mem_ready.1 hx
          have hxs := (Array.getElem?_eq_some_iff.1 ho).1
          unfold tailX at hT
          have h4 := List.all_eq_true.1 hT x (List.mem_range.2 hxs)
          have h5 : ¬ x < k := by omega
          simp only [h5, decide_false, Bool.false_or] at h4
          have hoth : ∀ j, j < k → j ≠ p → listed.getD j false = true := fun j hj hjp => by
            have h6 := List.all_eq_true.1 h4 j (List.mem_range.2 (by omega))
            have hjp' : (j == p) = false := by rw [beq_eq_false_iff_ne]; exact hjp
            exact cover_listed m hx (by simpa [hjp'] using h6)
          cases hlp : listed.getD p false with
          | true =>
            refine hall fun j hj => ?_
            by_cases hjp : j = p
            · rw [hjp]; exact hlp
            · exact hoth j hj hjp
          | false =>
            have hpl : p < listed.size := by rw [m.lsize]; omega
            refine hp (mem_ready.2 ⟨by simpa [Array.getD, hpl] using hlp, op, hop, fun e he hbe => ?_⟩)
            have := (inv_spec hB hop).2.2 e he hbe
            exact hoth e.on (by omega) (by omega)
      refine ⟨fun hr => ?_, fun i hi => ?_⟩
      · exact absurd (fun j hj => m.all hB hr j (by omega)) hall
      · obtain ⟨hun, o, ho, _⟩ := mem_ready.1 hi
        have hik := hnf i hi
        have hil : i < listed.size := by rw [m.lsize]; exact (Array.getElem?_eq_some_iff.1 ho).1
        have hst := hs.at i o (by rw [List.getElem?_take, if_pos hik]; simpa using ho) a w (by rw [Nat.zero_add]; exact m.mids hi)
        rw [Nat.zero_add] at hst
        refine hst.wpOp ho fun v w' hv hg => ih _ _ _ (m.next hB hn ho hi hv hg) (fun j hj => ?_) ?_
        · rw [getD_set _ _ _ hil, if_neg (by omega)]; exact hno j hj
        · have hu : listed[i] = false := by simpa [Array.getD, hil] using hun
          have := cnt listed i hil hu
          omega
theorem region_tailX (k p : Nat) (F : List Fact) {id : Nat} {op : Oper} (hm : P.follows .mixedOrders = true) {l : List Oper} (hB : invB l.toArray a0.tmps.size = true) (hT : (tailX l.toArray k p && decide (k ≤ l.length) && decide (p < k)) = true) (hop : l[p]? = some op)
    (hsel : (Region.noSelect l.toArray && Region.free .any l.toArray (coverL l.toArray p) p) = true) (hQ : ∀ v c a w, Q (.panic c) (a.put op.dst v) w → Q (.panic c) a w) (hy : ∀ a w, Mids l.toArray F a0 w0 p a w → ∃ v, Yields P l.toArray op v a ∧ (factAt F p).p v w) (hs : StepsOk P l.toArray Q F a0 w0 0 (l.take k))
    (hend : ∀ (f : Nat → Value) w, Grew w0 w → (∀ j, j < k → (factAt F j).p (f j) w) → wpList P l.toArray Q (l.drop k) (putAll f 0 (l.take k) a0) w) : (Code.region id l.toArray true).wp P Q a0 w0 := by
  simp only [Bool.and_eq_true, decide_eq_true_eq] at hT hsel
  refine wp_region_any hm (wpAny_frontX (w0 := w0) hB rfl (by simpa using hT.1.2) hT.2 hT.1.1 (by simpa using hop) hsel.1 hsel.2 hQ hy (by simpa using hs) (by simpa using hend) _ _ _ _ (midst_start _ ⟨rfl, rfl, rfl, Nat.le_refl _, fun _ _ => rfl⟩) (fun j _ => ?_) ?_)
  · by_cases h : j < l.toArray.size
    · simp [Array.getD]
    · simp [Array.getD]
  · have := List.countP_le_length (p := fun b => !b) (l := (Array.replicate l.toArray.size false).toList)
    simpa using this
end
end Go.Proofs.Ythpbhfepiekchaa
