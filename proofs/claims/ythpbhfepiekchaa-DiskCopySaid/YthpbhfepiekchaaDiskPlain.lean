/- Disks, plain: files by rising names, and what each call makes of them. No program stands here. -/
import Derived.RowKit
namespace Go.Proofs.Ythpbhfepiekchaa
set_option linter.unusedVariables false
set_option linter.unusedSimpArgs false

structure FileP where
  name : List UInt8
  b : List UInt8
  lasts : Nat
structure DiskP where
  files : List FileP
  room : Nat
  fuse : Option Nat
  dead : Bool
def findP : List FileP → List UInt8 → Option FileP
  | [], _ => none
  | f :: r, s => if f.name = s then some f else findP r s
def withoutP (l : List FileP) (s : List UInt8) : List FileP := l.filter fun f => decide (f.name ≠ s)
def insP : List FileP → FileP → List FileP
  | [], f => [f]
  | g :: r, f => if g.name < f.name then g :: insP r f else f :: g :: r
def putP (l : List FileP) (f : FileP) : List FileP := insP (withoutP l f.name) f
def usedP (l : List FileP) : Nat := (l.map fun f => f.b.length).sum
def nameP (s : List UInt8) : Prop := 1 ≤ s.length ∧ s.length ≤ 20
instance (s : List UInt8) : Decidable (nameP s) := by unfold nameP; infer_instance
def newP (room : Int) : DiskP := ⟨[], (max 0 (min room 1048576)).toNat, none, false⟩
/-- how many of n steps are done -/
def doneP (D : DiskP) (n : Nat) : Nat := match D.fuse with | none => n | some k => min n k
def burnP (D : DiskP) (n : Nat) : Option Nat := D.fuse.map (· - n)
def canP (D : DiskP) : Bool := !D.dead && decide (D.fuse ≠ some 0)
def mayP (D : DiskP) (s b : List UInt8) : Prop := nameP s ∧ usedP D.files + b.length ≤ D.room ∧ ((findP D.files s).isSome = true ∨ D.files.length < 8) ∧ D.dead = false
instance (D : DiskP) (s b : List UInt8) : Decidable (mayP D s b) := by unfold mayP; infer_instance
def fileP (l : List FileP) (s : List UInt8) : FileP := (findP l s).getD ⟨s, [], 0⟩
/-- the disk behind an Append that may be -/
def grownP (D : DiskP) (s b : List UInt8) : DiskP := ⟨putP D.files ⟨s, (fileP D.files s).b ++ b.take (doneP D b.length), (fileP D.files s).lasts⟩, D.room, burnP D (doneP D b.length), decide (doneP D b.length < b.length)⟩
def diesP (D : DiskP) : DiskP := ⟨D.files, D.room, D.fuse, true⟩
def doesP (D : DiskP) (l : List FileP) : DiskP := ⟨l, D.room, burnP D 1, false⟩
def syncP (D : DiskP) (s : List UInt8) : DiskP × Bool := match findP D.files s with
  | none => (D, false)
  | some f => if canP D = true then (doesP D (putP D.files ⟨s, f.b, f.b.length⟩), true) else (diesP D, false)
def renameP (D : DiskP) (s t : List UInt8) : DiskP × Bool := match findP D.files s with
  | none => (D, false)
  | some f => if nameP t then if canP D = true then (doesP D (putP (withoutP D.files s) ⟨t, f.b, f.lasts⟩), true) else (diesP D, false) else (D, false)
def dropP (D : DiskP) (s : List UInt8) : DiskP × Bool := match findP D.files s with
  | none => (D, false)
  | some _ => if canP D = true then (doesP D (withoutP D.files s), true) else (diesP D, false)
def fuseP (D : DiskP) (n : Int) : DiskP := if D.dead = true then D else ⟨D.files, D.room, if n < 0 then none else some n.toNat, D.dead⟩
def keepP (f : FileP) (k : Nat) : Nat := min (f.b.length - f.lasts) k
def crashL : List FileP → Nat → List FileP
  | [], _ => []
  | f :: r, k => ⟨f.name, f.b.take (f.lasts + keepP f k), f.lasts + keepP f k⟩ :: crashL r (k - keepP f k)
def crashP (D : DiskP) (n : Int) : DiskP := ⟨crashL D.files n.toNat, D.room, none, false⟩
def appendP (D : DiskP) (s b : List UInt8) : DiskP × Bool := if mayP D s b then (grownP D s b, decide (doneP D b.length = b.length)) else (D, false)

theorem names_tri (a b : List UInt8) : a < b ∨ a = b ∨ b < a := by
  by_cases h : a < b
  · exact .inl h
  · by_cases h2 : b < a
    · exact .inr (.inr h2)
    · exact .inr (.inl (List.le_antisymm (List.not_lt.1 h2) (List.not_lt.1 h)))
def readP (D : DiskP) (s : List UInt8) : Option (List UInt8) := (findP D.files s).map FileP.b
def lastingP (D : DiskP) (s : List UInt8) : List UInt8 := ((findP D.files s).map fun f => f.b.take f.lasts).getD []
def namesP (D : DiskP) : List (List UInt8) := D.files.map FileP.name
/-- names rise -/
def Rising (l : List FileP) : Prop := l.Pairwise fun f g => f.name < g.name
theorem findP_name {l : List FileP} {s : List UInt8} {f : FileP} (h : findP l s = some f) : f.name = s ∧ f ∈ l := by
  induction l with
  | nil => simp [findP] at h
  | cons g r ih =>
    unfold findP at h
    split at h
    · cases h; exact ⟨‹_›, List.mem_cons_self ..⟩
    · exact ⟨(ih h).1, List.mem_cons_of_mem _ (ih h).2⟩
theorem findP_none {l : List FileP} {s : List UInt8} : findP l s = none ↔ ∀ f ∈ l, f.name ≠ s := by
  induction l with
  | nil => simp [findP]
  | cons g r ih =>
    unfold findP
    split
    · simp; intro h; exact absurd ‹_› h
    · rw [ih]; simp [*]
theorem find_without_same (l : List FileP) (s : List UInt8) : findP (withoutP l s) s = none := by
  rw [findP_none]
  intro f hf
  simpa using (List.mem_filter.1 hf).2
theorem find_without_other (l : List FileP) {s t : List UInt8} (h : t ≠ s) : findP (withoutP l s) t = findP l t := by
  induction l with
  | nil => rfl
  | cons g r ih =>
    unfold withoutP at ih ⊢
    by_cases hg : g.name = s
    · rw [List.filter_cons_of_neg (by simp [hg]), ih]
      have : ¬ g.name = t := fun e => h (e ▸ hg)
      simp [findP, this]
    · rw [List.filter_cons_of_pos (by simp [hg])]
      simp only [findP, ih]
theorem find_ins_same (l : List FileP) (f : FileP) (h : findP l f.name = none) : findP (insP l f) f.name = some f := by
  induction l with
  | nil => simp [insP, findP]
  | cons g r ih =>
    have hg : ¬ g.name = f.name := findP_none.1 h g (List.mem_cons_self ..)
    have hr : findP r f.name = none := findP_none.2 fun q hq => findP_none.1 h q (List.mem_cons_of_mem _ hq)
    unfold insP
    split
    · simp [findP, hg, ih hr]
    · simp [findP]
theorem find_ins_other (l : List FileP) (f : FileP) {t : List UInt8} (h : t ≠ f.name) : findP (insP l f) t = findP l t := by
  have h' : ¬ f.name = t := fun e => h e.symm
  induction l with
  | nil => simp [insP, findP, h']
  | cons g r ih =>
    unfold insP
    split
    · simp only [findP, ih]
    · simp [findP, h']
theorem find_put_same (l : List FileP) (f : FileP) : findP (putP l f) f.name = some f := find_ins_same _ _ (find_without_same l f.name)
theorem find_put_other (l : List FileP) (f : FileP) {t : List UInt8} (h : t ≠ f.name) : findP (putP l f) t = findP l t := by
  rw [putP, find_ins_other _ _ h, find_without_other _ h]
theorem rising_without {l : List FileP} (h : Rising l) (s : List UInt8) : Rising (withoutP l s) := h.filter _
theorem mem_ins {l : List FileP} {f g : FileP} : g ∈ insP l f ↔ g = f ∨ g ∈ l := by
  induction l with
  | nil => simp [insP]
  | cons q r ih =>
    unfold insP
    split
    · rw [List.mem_cons, ih, List.mem_cons]; constructor
      · rintro (h | h | h) <;> simp [h]
      · rintro (h | h | h) <;> simp [h]
    · simp
theorem rising_ins {l : List FileP} (h : Rising l) {f : FileP} (hf : findP l f.name = none) : Rising (insP l f) := by
  induction l with
  | nil => simp [insP, Rising]
  | cons g r ih =>
    have hg : ¬ g.name = f.name := findP_none.1 hf g (List.mem_cons_self ..)
    have hr : findP r f.name = none := findP_none.2 fun q hq => findP_none.1 hf q (List.mem_cons_of_mem _ hq)
    obtain ⟨h1, h2⟩ := List.pairwise_cons.1 h
    unfold insP
    split
    · refine List.pairwise_cons.2 ⟨fun q hq => ?_, ih h2 hr⟩
      rcases mem_ins.1 hq with rfl | hq
      · assumption
      · exact h1 q hq
    · have hlt : f.name < g.name := by
        rcases names_tri f.name g.name with hh | hh | hh
        · exact hh
        · exact absurd hh.symm hg
        · exact absurd hh ‹_›
      refine List.pairwise_cons.2 ⟨fun q hq => ?_, h⟩
      rcases List.mem_cons.1 hq with rfl | hq
      · exact hlt
      · exact List.lt_trans hlt (h1 q hq)
theorem rising_put {l : List FileP} (h : Rising l) (f : FileP) : Rising (putP l f) := rising_ins (rising_without h f.name) (find_without_same l f.name)
theorem find_tail {g : FileP} {r : List FileP} (h : Rising (g :: r)) : findP r g.name = none :=
  findP_none.2 fun q hq e => by have := (List.pairwise_cons.1 h).1 q hq; rw [e] at this; exact List.lt_irrefl _ this
theorem without_miss {l : List FileP} {s : List UInt8} (h : findP l s = none) : withoutP l s = l :=
  List.filter_eq_self.2 fun f hf => by simpa using findP_none.1 h f hf
theorem used_ins (l : List FileP) (f : FileP) : usedP (insP l f) = usedP l + f.b.length := by
  induction l with
  | nil => simp [insP, usedP]
  | cons g r ih =>
    unfold usedP at ih ⊢
    unfold insP
    split
    · simp only [List.map_cons, List.sum_cons, ih]; omega
    · simp only [List.map_cons, List.sum_cons]; omega
theorem length_ins (l : List FileP) (f : FileP) : (insP l f).length = l.length + 1 := by
  induction l with
  | nil => rfl
  | cons g r ih => unfold insP; split <;> simp [ih]
theorem used_without {l : List FileP} (h : Rising l) {s : List UInt8} {f : FileP} (hf : findP l s = some f) : usedP (withoutP l s) + f.b.length = usedP l ∧ (withoutP l s).length + 1 = l.length := by
  induction l with
  | nil => simp [findP] at hf
  | cons g r ih =>
    obtain ⟨h1, h2⟩ := List.pairwise_cons.1 h
    by_cases hg : g.name = s
    · have e : withoutP (g :: r) s = r := by
        unfold withoutP
        rw [List.filter_cons_of_neg (by simp [hg])]
        exact without_miss (hg ▸ find_tail h)
      simp only [findP, if_pos hg, Option.some.injEq] at hf
      subst hf
      rw [e]; simp [usedP]; omega
    · simp only [findP, if_neg hg] at hf
      have e : withoutP (g :: r) s = g :: withoutP r s := List.filter_cons_of_pos (by simp [hg])
      have := ih h2 hf
      rw [e]; simp only [usedP, List.map_cons, List.sum_cons, List.length_cons] at this ⊢; omega
theorem used_put_new {l : List FileP} {f : FileP} (h : findP l f.name = none) : usedP (putP l f) = usedP l + f.b.length ∧ (putP l f).length = l.length + 1 := by
  rw [putP, without_miss h]; exact ⟨used_ins l f, length_ins l f⟩
theorem used_put_old {l : List FileP} (hl : Rising l) {f g : FileP} (h : findP l f.name = some g) : usedP (putP l f) + g.b.length = usedP l + f.b.length ∧ (putP l f).length = l.length := by
  have := used_without hl h
  rw [putP, used_ins, length_ins]; omega
/-- two rising lists with the same files are one -/
theorem rising_same {l m : List FileP} (hl : Rising l) (hm : Rising m) (h : ∀ s, findP l s = findP m s) : l = m := by
  induction l generalizing m with
  | nil =>
    cases m with
    | nil => rfl
    | cons g r => have := h g.name; simp [findP] at this
  | cons f r ih =>
    cases m with
    | nil => have := h f.name; simp [findP] at this
    | cons g q =>
      have hl1 := List.pairwise_cons.1 hl
      have hm1 := List.pairwise_cons.1 hm
      have e : f.name = g.name := by
        rcases names_tri f.name g.name with hh | hh | hh
        · have := h f.name
          rw [findP, if_pos rfl] at this
          have h2 := (findP_name this.symm).2
          rcases List.mem_cons.1 h2 with h2 | h2
          · rw [h2]
          · exact absurd (List.lt_trans hh (hm1.1 f h2)) (List.lt_irrefl _)
        · exact hh
        · have := h g.name
          rw [show findP (g :: q) g.name = some g from if_pos rfl] at this
          have h2 := (findP_name this).2
          rcases List.mem_cons.1 h2 with h2 | h2
          · rw [h2]
          · exact absurd (List.lt_trans hh (hl1.1 g h2)) (List.lt_irrefl _)
      have e2 : f = g := by
        have := h f.name
        rw [findP, if_pos rfl, findP, if_pos e.symm] at this
        exact Option.some.inj this
      subst e2
      congr 1
      refine ih hl1.2 hm1.2 fun s => ?_
      by_cases hs : f.name = s
      · subst hs; rw [find_tail hl, find_tail hm]
      · have := h s
        simpa [findP, hs] using this
theorem crash_names (l : List FileP) (k : Nat) : (crashL l k).map FileP.name = l.map FileP.name := by
  induction l generalizing k with
  | nil => rfl
  | cons f r ih => simp [crashL, ih]
theorem crash_length (l : List FileP) (k : Nat) : (crashL l k).length = l.length := by
  have := congrArg List.length (crash_names l k); simpa using this
theorem rising_crash {l : List FileP} (h : Rising l) (k : Nat) : Rising (crashL l k) := by
  have h' : (l.map FileP.name).Pairwise (· < ·) := List.pairwise_map.2 h
  rw [← crash_names l k] at h'
  exact List.pairwise_map.1 h'
theorem used_crash (l : List FileP) (k : Nat) : usedP (crashL l k) ≤ usedP l := by
  induction l generalizing k with
  | nil => simp [crashL]
  | cons f r ih =>
    have := ih (k - keepP f k)
    simp only [usedP, crashL, List.map_cons, List.sum_cons, List.length_take] at this ⊢
    omega
/-- what each disk is -/
structure OkP (D : DiskP) : Prop where
  rise : Rising D.files
  each : ∀ f ∈ D.files, f.lasts ≤ f.b.length ∧ nameP f.name
  many : D.files.length ≤ 8
  used : usedP D.files ≤ D.room
  room : D.room ≤ 1048576
theorem OkP.new (n : Int) : OkP (newP n) := ⟨List.Pairwise.nil, by simp [newP], by simp [newP], by simp [newP, usedP], by simp only [newP]; omega⟩
theorem OkP.found {D : DiskP} (h : OkP D) {s : List UInt8} {f : FileP} (hf : findP D.files s = some f) : f.name = s ∧ f.lasts ≤ f.b.length ∧ nameP s ∧ f.b.length ≤ 1048576 := by
  obtain ⟨h1, h2⟩ := findP_name hf
  have h3 := h.each f h2
  have h4 := used_without h.rise hf
  have := h.used; have := h.room
  exact ⟨h1, h3.1, h1 ▸ h3.2, by omega⟩
theorem doneP_le (D : DiskP) (n : Nat) : doneP D n ≤ n := by unfold doneP; split <;> omega
theorem mem_put {l : List FileP} {f g : FileP} (h : g ∈ putP l f) : g = f ∨ g ∈ l := by
  rcases mem_ins.1 h with h | h
  · exact .inl h
  · exact .inr (List.mem_filter.1 h).1
theorem OkP.dies {D : DiskP} (h : OkP D) : OkP (diesP D) := ⟨h.rise, h.each, h.many, h.used, h.room⟩
theorem OkP.fuse {D : DiskP} (h : OkP D) (n : Int) : OkP (fuseP D n) := by
  unfold fuseP
  split
  · exact h
  · exact ⟨h.rise, h.each, h.many, h.used, h.room⟩
theorem OkP.put {D : DiskP} (h : OkP D) {s : List UInt8} {f : FileP} (hf : findP D.files s = some f) (b : List UInt8) (n : Nat) (hb : b.length = f.b.length) (hn : n ≤ b.length) (u : Option Nat) (d : Bool) : OkP ⟨putP D.files ⟨s, b, n⟩, D.room, u, d⟩ := by
  have h1 := used_put_old h.rise (f := ⟨s, b, n⟩) hf
  have h2 := h.found hf
  refine ⟨rising_put h.rise _, fun g hg => ?_, ?_, ?_, h.room⟩
  · rcases mem_put hg with rfl | hg
    · exact ⟨hn, h2.2.2.1⟩
    · exact h.each g hg
  · rw [h1.2]; exact h.many
  · have := h.used; simp only at h1 ⊢; omega
theorem OkP.sync {D : DiskP} (h : OkP D) (s : List UInt8) : OkP (syncP D s).1 := by
  unfold syncP
  split
  · exact h
  · split
    · exact h.put ‹_› _ _ rfl (Nat.le_refl _) _ _
    · exact h.dies
theorem OkP.without {D : DiskP} (h : OkP D) (s : List UInt8) (u : Option Nat) (d : Bool) : OkP ⟨withoutP D.files s, D.room, u, d⟩ := by
  cases hf : findP D.files s with
  | none => rw [without_miss hf]; exact ⟨h.rise, h.each, h.many, h.used, h.room⟩
  | some f =>
    have h1 := used_without h.rise hf
    have := h.many; have := h.used
    exact ⟨rising_without h.rise s, fun g hg => h.each g (List.mem_filter.1 hg).1, by simp only; omega, by simp only; omega, h.room⟩
theorem OkP.drop {D : DiskP} (h : OkP D) (s : List UInt8) : OkP (dropP D s).1 := by
  unfold dropP
  split
  · exact h
  · split
    · exact h.without s _ _
    · exact h.dies
theorem OkP.rename {D : DiskP} (h : OkP D) (s t : List UInt8) : OkP (renameP D s t).1 := by
  unfold renameP
  split
  · exact h
  · rename_i f hf
    split
    · split
      · have h1 := h.found hf
        have h2 := used_without h.rise hf
        have hW := h.without s none false
        have := h.many; have := h.used
        cases ht : findP (withoutP D.files s) t with
        | none =>
          have h3 := used_put_new (l := withoutP D.files s) (f := ⟨t, f.b, f.lasts⟩) ht
          refine ⟨rising_put hW.rise _, fun g hg => ?_, ?_, ?_, h.room⟩
          · rcases mem_put hg with rfl | hg
            · exact ⟨h1.2.1, ‹_›⟩
            · exact hW.each g hg
          · simp only [doesP] at h3 ⊢; omega
          · simp only [doesP] at h3 ⊢; omega
        | some g0 =>
          have h3 := used_put_old hW.rise (f := ⟨t, f.b, f.lasts⟩) ht
          refine ⟨rising_put hW.rise _, fun g hg => ?_, ?_, ?_, h.room⟩
          · rcases mem_put hg with rfl | hg
            · exact ⟨h1.2.1, ‹_›⟩
            · exact hW.each g hg
          · simp only [doesP] at h3 ⊢; omega
          · simp only [doesP] at h3 ⊢; omega
      · exact h.dies
    · exact h
theorem OkP.crash {D : DiskP} (h : OkP D) (n : Int) : OkP (crashP D n) := by
  refine ⟨rising_crash h.rise _, ?_, by rw [crashP, crash_length]; exact h.many, Nat.le_trans (used_crash _ _) h.used, h.room⟩
  have : ∀ (l : List FileP) (k : Nat), (∀ f ∈ l, f.lasts ≤ f.b.length ∧ nameP f.name) → ∀ f ∈ crashL l k, f.lasts ≤ f.b.length ∧ nameP f.name := by
    intro l
    induction l with
    | nil => simp [crashL]
    | cons g r ih =>
      intro k hk f hf
      rcases List.mem_cons.1 hf with rfl | hf
      · have := hk g (List.mem_cons_self ..)
        refine ⟨?_, this.2⟩
        simp only [List.length_take, keepP]; omega
      · exact ih _ (fun q hq => hk q (List.mem_cons_of_mem _ hq)) f hf
  exact this _ _ h.each
theorem OkP.grown {D : DiskP} (h : OkP D) {s b : List UInt8} (hm : mayP D s b) : OkP (grownP D s b) := by
  obtain ⟨h1, h2, h3, h4⟩ := hm
  have hd := doneP_le D b.length
  have h5 := h.many; have h6 := h.used
  cases hf : findP D.files s with
  | none =>
    have h7 := used_put_new (l := D.files) (f := ⟨s, b.take (doneP D b.length), 0⟩) hf
    have h8 : D.files.length < 8 := by rcases h3 with h3 | h3; rw [hf] at h3; cases h3; exact h3
    have e : fileP D.files s = ⟨s, [], 0⟩ := by rw [fileP, hf]; rfl
    simp only [grownP, e, List.nil_append]
    refine ⟨rising_put h.rise _, fun g hg => ?_, by simp only; omega, by simp only [List.length_take] at h7 ⊢; omega, h.room⟩
    rcases mem_put hg with rfl | hg
    · exact ⟨Nat.zero_le _, h1⟩
    · exact h.each g hg
  | some f =>
    have e : fileP D.files s = f := by rw [fileP, hf]; rfl
    have h7 := used_put_old h.rise (f := ⟨s, f.b ++ b.take (doneP D b.length), f.lasts⟩) hf
    have h8 := h.found hf
    simp only [grownP, e]
    refine ⟨rising_put h.rise _, fun g hg => ?_, by simp only; omega, by simp only [List.length_append, List.length_take] at h7 ⊢; omega, h.room⟩
    rcases mem_put hg with rfl | hg
    · exact ⟨by simp only [List.length_append]; omega, h1⟩
    · exact h.each g hg
theorem OkP.append {D : DiskP} (h : OkP D) (s b : List UInt8) : OkP (appendP D s b).1 := by
  unfold appendP
  split
  · exact h.grown ‹_›
  · exact h
end Go.Proofs.Ythpbhfepiekchaa
