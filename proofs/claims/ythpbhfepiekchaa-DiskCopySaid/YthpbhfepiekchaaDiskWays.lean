/- Disks, plain: disks of one file and of two; what the laws of a disk ask of them. No program stands here. -/
import Derived.Test.YthpbhfepiekchaaDiskPlain
namespace Go.Proofs.Ythpbhfepiekchaa
set_option linter.unusedVariables false
set_option linter.unusedSimpArgs false

theorem doneP_none {D : DiskP} (h : D.fuse = none) (n : Nat) : doneP D n = n := by unfold doneP; rw [h]
theorem doneP_some {D : DiskP} {k : Nat} (h : D.fuse = some k) (n : Nat) : doneP D n = min n k := by unfold doneP; rw [h]
/-- the first file -/
theorem append_first {room : Nat} {u : Option Nat} {s b : List UInt8} (hs : nameP s) (hb : b.length ≤ room) :
    appendP ⟨[], room, u, false⟩ s b = (⟨[⟨s, b.take (doneP ⟨[], room, u, false⟩ b.length), 0⟩], room, u.map (· - doneP ⟨[], room, u, false⟩ b.length), decide (doneP ⟨[], room, u, false⟩ b.length < b.length)⟩, decide (doneP ⟨[], room, u, false⟩ b.length = b.length)) := by
  rw [appendP, if_pos ⟨hs, by simpa [usedP] using hb, .inr (by simp), rfl⟩]
  rfl
/-- more of the one file -/
theorem append_one {room : Nat} {u : Option Nat} {s a b : List UInt8} {n : Nat} (hs : nameP s) (hb : a.length + b.length ≤ room) :
    appendP ⟨[⟨s, a, n⟩], room, u, false⟩ s b = (⟨[⟨s, a ++ b.take (doneP ⟨[], room, u, false⟩ b.length), n⟩], room, u.map (· - doneP ⟨[], room, u, false⟩ b.length), decide (doneP ⟨[], room, u, false⟩ b.length < b.length)⟩, decide (doneP ⟨[], room, u, false⟩ b.length = b.length)) := by
  have e : doneP ⟨[⟨s, a, n⟩], room, u, false⟩ b.length = doneP ⟨[], room, u, false⟩ b.length := rfl
  rw [appendP, if_pos ⟨hs, by simpa [usedP] using hb, .inr (by simp), rfl⟩, grownP, e]
  simp [fileP, findP, putP, withoutP, insP, burnP]
theorem append_dead {D : DiskP} {s b : List UInt8} (h : D.dead = true) : appendP D s b = (D, false) := by
  rw [appendP, if_neg (by rintro ⟨_, _, _, h4⟩; rw [h] at h4; cases h4)]
theorem append_big {D : DiskP} {s b : List UInt8} (h : D.room < usedP D.files + b.length) : appendP D s b = (D, false) := by
  rw [appendP, if_neg (by rintro ⟨_, h2, _, _⟩; omega)]
theorem append_many {D : DiskP} {s b : List UInt8} (h : findP D.files s = none) (h8 : 8 ≤ D.files.length) : appendP D s b = (D, false) := by
  rw [appendP, if_neg (by rintro ⟨_, _, h3, _⟩; rw [h] at h3; rcases h3 with h3 | h3; cases h3; omega)]
theorem sync_one {room : Nat} {u : Option Nat} {s a : List UInt8} {n : Nat} (h : u ≠ some 0) : syncP ⟨[⟨s, a, n⟩], room, u, false⟩ s = (⟨[⟨s, a, a.length⟩], room, u.map (· - 1), false⟩, true) := by
  simp [syncP, findP, canP, h, doesP, putP, withoutP, insP, burnP]
theorem sync_spent {room : Nat} {s a : List UInt8} {n : Nat} : syncP ⟨[⟨s, a, n⟩], room, some 0, false⟩ s = (⟨[⟨s, a, n⟩], room, some 0, true⟩, false) := by
  simp [syncP, findP, canP, diesP]
theorem sync_dead {D : DiskP} {s : List UInt8} (h : D.dead = true) : syncP D s = (D, false) := by
  obtain ⟨l, r, u, d⟩ := D
  simp only at h; subst h
  unfold syncP
  split
  · rfl
  · simp [canP, diesP]
theorem drop_one {room : Nat} {u : Option Nat} {s a : List UInt8} {n : Nat} (h : u ≠ some 0) : dropP ⟨[⟨s, a, n⟩], room, u, false⟩ s = (⟨[], room, u.map (· - 1), false⟩, true) := by
  simp [dropP, findP, canP, h, doesP, withoutP, burnP]
theorem crash_one {room : Nat} {u : Option Nat} {d : Bool} {s a : List UInt8} {n k : Nat} : crashP ⟨[⟨s, a, n⟩], room, u, d⟩ (k : Int) = ⟨[⟨s, a.take (n + min (a.length - n) k), n + min (a.length - n) k⟩], room, none, false⟩ := by
  simp [crashP, crashL, keepP]
theorem take_both (a b : List UInt8) (m k : Nat) (hm : m ≤ b.length) : (a ++ b.take m).take (a.length + min ((a ++ b.take m).length - a.length) k) = a ++ b.take (min m k) := by
  rw [List.length_append, List.length_take, Nat.min_eq_left hm, Nat.add_sub_cancel_left, List.take_length_add_append, List.take_take, Nat.min_comm]
  congr 2; omega
/-- DiskLasts -/
theorem lasts_plain (s a b : List UInt8) (fuse keep : Nat) (hs : nameP s) (hl : a.length + b.length ≤ 300) :
    appendP (newP 1000) s a = (⟨[⟨s, a, 0⟩], 1000, none, false⟩, true) ∧ syncP ⟨[⟨s, a, 0⟩], 1000, none, false⟩ s = (⟨[⟨s, a, a.length⟩], 1000, none, false⟩, true) ∧
    ∃ D, appendP (fuseP ⟨[⟨s, a, a.length⟩], 1000, none, false⟩ (fuse : Int)) s b = (D, decide (b.length ≤ fuse)) ∧
      readP (crashP D (keep : Int)) s = some (a ++ b.take (min b.length (min fuse keep))) ∧ lastingP (crashP D (keep : Int)) s = a ++ b.take (min b.length (min fuse keep)) ∧ (crashP D (keep : Int)).dead = false := by
  refine ⟨?_, ?_, ?_⟩
  · rw [show newP 1000 = ⟨[], 1000, none, false⟩ from rfl, append_first hs (by omega)]
    simp [doneP]
  · rw [sync_one (by simp)]; rfl
  · have hf : fuseP ⟨[⟨s, a, a.length⟩], 1000, none, false⟩ (fuse : Int) = ⟨[⟨s, a, a.length⟩], 1000, some fuse, false⟩ := by
      simp [fuseP]
    rw [hf, append_one hs (by omega)]
    refine ⟨_, Prod.ext rfl ?_, ?_, ?_, rfl⟩
    · show decide (min b.length fuse = b.length) = decide (b.length ≤ fuse)
      exact decide_eq_decide.2 (by omega)
    · rw [crash_one]
      simp only [doneP, readP, findP, if_true, Option.map_some]
      rw [take_both _ _ _ _ (Nat.min_le_left _ _), Nat.min_assoc]
    · rw [crash_one]
      simp only [doneP, lastingP, findP, if_true, Option.map_some, Option.getD_some]
      rw [List.take_take, Nat.min_self, take_both _ _ _ _ (Nat.min_le_left _ _), Nat.min_assoc]
/-- DiskMoves: two files -/
theorem append_two {room : Nat} {s t a c : List UInt8} {n : Nat} (ht : nameP t) (hst : s < t) (hb : a.length + c.length ≤ room) :
    appendP ⟨[⟨s, a, n⟩], room, none, false⟩ t c = (⟨[⟨s, a, n⟩, ⟨t, c, 0⟩], room, none, false⟩, true) := by
  have hne : s ≠ t := fun e => List.lt_irrefl _ (e ▸ hst)
  rw [appendP, if_pos ⟨ht, by simpa [usedP] using hb, .inr (by simp), rfl⟩, grownP]
  simp [fileP, findP, putP, withoutP, insP, burnP, doneP, hne, hst]
theorem rename_two {room : Nat} {s t a c : List UInt8} {n m : Nat} (ht : nameP t) (hst : s < t) :
    renameP ⟨[⟨s, a, n⟩, ⟨t, c, m⟩], room, none, false⟩ s t = (⟨[⟨t, a, n⟩], room, none, false⟩, true) := by
  have hne : s ≠ t := fun e => List.lt_irrefl _ (e ▸ hst)
  simp [renameP, findP, canP, doesP, putP, withoutP, insP, burnP, hne, hne.symm, ht]
theorem rename_spent {room : Nat} {s t a c : List UInt8} {n m : Nat} (ht : nameP t) :
    renameP ⟨[⟨s, a, n⟩, ⟨t, c, m⟩], room, some 0, false⟩ s t = (⟨[⟨s, a, n⟩, ⟨t, c, m⟩], room, some 0, true⟩, false) := by
  simp [renameP, findP, canP, diesP, ht]
/-- DiskRoom, DiskNames: files each of which has a name of its own -/
theorem names_most {l : List FileP} (hl : Rising l) (N : List (List UInt8)) (hN : N.Nodup) (h : ∀ f ∈ l, f.name ∈ N) : l.length = (N.filter fun s => (findP l s).isSome).length := by
  have hn : (l.map FileP.name).Nodup := (List.pairwise_map.2 hl).imp fun {a b} (h : a < b) (e : a = b) => List.lt_irrefl _ (e ▸ h)
  have hp : (l.map FileP.name).Perm (N.filter fun s => (findP l s).isSome) := by
    refine (List.perm_ext_iff_of_nodup hn (hN.filter _)).2 fun s => ?_
    rw [List.mem_map, List.mem_filter]
    constructor
    · rintro ⟨f, hf, rfl⟩
      refine ⟨h f hf, ?_⟩
      cases e : findP l f.name with
      | none => exact absurd rfl (findP_none.1 e f hf)
      | some _ => rfl
    · rintro ⟨_, h2⟩
      obtain ⟨f, hf⟩ := Option.isSome_iff_exists.1 h2
      exact ⟨f, (findP_name hf).2, (findP_name hf).1⟩
  have := hp.length_eq
  rwa [List.length_map] at this
theorem names_rise {l : List FileP} (hl : Rising l) : (l.map FileP.name).Pairwise (· < ·) := List.pairwise_map.2 hl
theorem names_mem {l : List FileP} (s : List UInt8) : s ∈ l.map FileP.name ↔ (findP l s).isSome = true := by
  rw [List.mem_map]
  constructor
  · rintro ⟨f, hf, rfl⟩
    cases e : findP l f.name with
    | none => exact absurd rfl (findP_none.1 e f hf)
    | some _ => rfl
  · intro h2
    obtain ⟨f, hf⟩ := Option.isSome_iff_exists.1 h2
    exact ⟨f, (findP_name hf).2, (findP_name hf).1⟩
/-- rising lists of the same texts are one -/
theorem rise_unique {a b : List (List UInt8)} (ha : a.Pairwise (· < ·)) (hb : b.Pairwise (· < ·)) (h : ∀ s, s ∈ a ↔ s ∈ b) : a = b := by
  induction a generalizing b with
  | nil =>
    cases b with
    | nil => rfl
    | cons y q => have := (h y).2 (List.mem_cons_self ..); simp at this
  | cons x r ih =>
    cases b with
    | nil => have := (h x).1 (List.mem_cons_self ..); simp at this
    | cons y q =>
      have ha1 := List.pairwise_cons.1 ha
      have hb1 := List.pairwise_cons.1 hb
      have e : x = y := by
        rcases List.mem_cons.1 ((h x).1 (List.mem_cons_self ..)) with h1 | h1
        · exact h1
        · rcases List.mem_cons.1 ((h y).2 (List.mem_cons_self ..)) with h2 | h2
          · exact h2.symm
          · exact absurd (List.lt_trans (ha1.1 y h2) (hb1.1 x h1)) (List.lt_irrefl _)
      subst e
      congr 1
      refine ih ha1.2 hb1.2 fun s => ?_
      constructor
      · intro hs
        rcases List.mem_cons.1 ((h s).1 (List.mem_cons_of_mem _ hs)) with rfl | h1
        · exact absurd (ha1.1 s hs) (List.lt_irrefl _)
        · exact h1
      · intro hs
        rcases List.mem_cons.1 ((h s).2 (List.mem_cons_of_mem _ hs)) with rfl | h1
        · exact absurd (hb1.1 s hs) (List.lt_irrefl _)
        · exact h1
/-- what a sort leaves of a list of different texts rises -/
theorem sorted_rise {a : List (List UInt8)} (h : a.Pairwise fun x y => ¬ y < x) (hn : a.Nodup) : a.Pairwise (· < ·) := by
  refine (h.and hn).imp fun {x y} hxy => ?_
  rcases names_tri x y with h1 | h1 | h1
  · exact h1
  · exact absurd h1 hxy.2
  · exact absurd h1 hxy.1
/-- as many keys as files -/
theorem keys_length {l : List FileP} (hl : Rising l) {K : List (List UInt8)} (hK : K.Nodup) (h : ∀ s, s ∈ K ↔ (findP l s).isSome = true) : K.length = l.length := by
  have hn : (l.map FileP.name).Nodup := (names_rise hl).imp fun {a b} (h : a < b) (e : a = b) => List.lt_irrefl _ (e ▸ h)
  have := ((List.perm_ext_iff_of_nodup hK hn).2 fun s => (h s).trans (names_mem s).symm).length_eq
  rwa [List.length_map] at this
theorem append_finds {D : DiskP} {s b : List UInt8} (hm : mayP D s b) (t : List UInt8) : findP (appendP D s b).1.files t = if t = s then some ⟨s, (fileP D.files s).b ++ b.take (doneP D b.length), (fileP D.files s).lasts⟩ else findP D.files t := by
  rw [appendP, if_pos hm]
  split
  · subst t; exact find_put_same _ _
  · exact find_put_other _ _ ‹_›
theorem append_used {D : DiskP} (h : OkP D) {s b : List UInt8} (hm : mayP D s b) (hu : D.fuse = none) : usedP (appendP D s b).1.files = usedP D.files + b.length ∧ (appendP D s b).2 = true ∧ (appendP D s b).1.fuse = none ∧ (appendP D s b).1.dead = false ∧ (appendP D s b).1.room = D.room := by
  rw [appendP, if_pos hm]
  have hd : doneP D b.length = b.length := doneP_none hu _
  refine ⟨?_, by simp [hd], by simp [grownP, burnP, hu], by simp [grownP, hd], rfl⟩
  show usedP (putP D.files ⟨s, (fileP D.files s).b ++ b.take (doneP D b.length), (fileP D.files s).lasts⟩) = _
  cases hf : findP D.files s with
  | none =>
    have h7 := (used_put_new (l := D.files) (f := ⟨s, (fileP D.files s).b ++ b.take (doneP D b.length), (fileP D.files s).lasts⟩) hf).1
    rw [h7]
    simp [fileP, hf, hd]
  | some f =>
    have h7 := (used_put_old h.rise (f := ⟨s, (fileP D.files s).b ++ b.take (doneP D b.length), (fileP D.files s).lasts⟩) hf).1
    simp only [fileP, hf, Option.getD_some, List.length_append, hd, List.take_length] at h7 ⊢
    omega
end Go.Proofs.Ythpbhfepiekchaa
