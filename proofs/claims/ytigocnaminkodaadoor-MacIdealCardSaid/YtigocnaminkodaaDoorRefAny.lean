/- The reference's ideal maker, whatever is asked: Make at once; Prove as the program's; how many messages there are. -/
import Derived.Test.YtigocnaminkodaaDoorRefNew
namespace Go.Proofs.YtigocnaminkodaaDoor
open Go.ChangeShapes Go.WideShapes Go.ChangeAt Go.RowKit
set_option linter.unusedVariables false

theorem nodup_at {l : List (List UInt8)} (h : l.Nodup) {i j : Nat} (hi : i < l.length) (hj : j < l.length) (e : l[i] = l[j]) : i = j := by
  have hp := List.pairwise_iff_getElem.1 h
  rcases Nat.lt_trichotomy i j with h1 | h1 | h1
  · exact absurd e (hp i j hi hj h1)
  · exact h1
  · exact absurd e.symm (hp j i hj hi h1)
/-- each message was made once: one place at most fits -/
theorem fits_pos (made : List (List UInt8)) (msg code : List UInt8) (hnd : made.Nodup) : fitsL made msg code made.length = ((posL msg made 0).any fun j => decide (idealL j msg = code)) := by
  cases h : posL msg made 0 with
  | none =>
    rw [Option.any_none]
    unfold fitsL
    rw [Bool.eq_false_iff]
    intro hh
    obtain ⟨j, hj, h2⟩ := List.any_eq_true.1 hh
    have hj' := List.mem_range.1 hj
    have e : made.getD j [] = made[j] := by simp [List.getD, hj']
    rw [e, Bool.and_eq_true, decide_eq_true_eq, decide_eq_true_eq] at h2
    exact pos_none h j hj' h2.1
  | some k =>
    rw [Option.any_some]
    obtain ⟨_, ⟨hk, hm⟩, _⟩ := pos_at h
    simp only [Nat.sub_zero] at hk hm
    by_cases hc : idealL k msg = code
    · rw [decide_eq_true hc]
      exact fits_at made msg code k hk hm (by rw [hm]; exact hc)
    · rw [decide_eq_false hc]
      unfold fitsL
      rw [Bool.eq_false_iff]
      intro hh
      obtain ⟨j, hj, h2⟩ := List.any_eq_true.1 hh
      have hj' := List.mem_range.1 hj
      have e : made.getD j [] = made[j] := by simp [List.getD, hj']
      rw [e, Bool.and_eq_true, decide_eq_true_eq, decide_eq_true_eq] at h2
      obtain rfl := nodup_at hnd hj' hk (h2.1.trans hm.symm)
      rw [hm] at h2
      exact hc h2.2
theorem with_nodup {made : List (List UInt8)} (h : made.Nodup) (m : List UInt8) : (withL made m).Nodup := by
  unfold withL
  cases hp : posL m made 0 with
  | some k => exact h
  | none =>
    simp only [Option.isSome_none, Bool.false_eq_true, if_false]
    refine List.nodup_append.2 ⟨h, by simp, fun a ha b hb => ?_⟩
    obtain rfl := List.mem_singleton.1 hb
    obtain ⟨i, hi, rfl⟩ := List.getElem_of_mem ha
    exact pos_none hp i hi
theorem with_sub {made L : List (List UInt8)} (h : ∀ x ∈ made, x ∈ L) {m : List UInt8} (hm : m ∈ L) : ∀ x ∈ withL made m, x ∈ L := by
  intro x hx
  unfold withL at hx
  split at hx
  · exact h x hx
  · rcases List.mem_append.1 hx with h1 | h1
    · exact h x h1
    · rw [List.mem_singleton.1 h1]; exact hm
theorem nodup_le : ∀ (a b : List (List UInt8)), a.Nodup → (∀ x ∈ a, x ∈ b) → a.length ≤ b.length
  | [], b, _, _ => Nat.zero_le _
  | x :: xs, b, hn, hs => by
    have hx := hs x (by simp)
    obtain ⟨hx1, hn'⟩ := List.nodup_cons.1 hn
    have := nodup_le xs (b.erase x) hn' (fun y hy => (List.mem_erase_of_ne (show y ≠ x from fun e => hx1 (by rw [← e]; exact hy))).2 (hs y (by simp [hy])))
    rw [List.length_erase_of_mem hx] at this
    have := List.length_pos_of_mem hx
    simp only [List.length_cons]
    omega
/-- what Make leaves -/
def MadeU (w : World) (B : Nat) (made : List (List UInt8)) (msg : List UInt8) (e : Ending) (w' : World) : Prop :=
  ∃ Am cm Ac cc cs, ∃ p : Piece, e = .returned (.tuple #[tV Am cm Ac cc (withL made msg).length, p.val]) ∧ p.bs = idealL (aheadL made msg) msg ∧ PieceOk w' p ∧ PieceFrom B p ∧ TOk w' B Am cm Ac cc (withL made msg) cs ∧ Below w.heap.size w w'
theorem refmake_any (Am : Option Addr) (cm : Nat) (Ac : Option Addr) (cc : Nat) (made : List (List UInt8)) (cs : List Piece) (B : Nat) (A : Option Addr) (msg : List UInt8) (n c : Nat) (w : World) (hT0 : TOk w B Am cm Ac cc made cs) (hfew : made.length ≤ 900) (hBw : B ≤ w.heap.size) (hp0 : PieceOk w ⟨A, c, msg⟩) (hn : msg.length = n) (hn4 : n ≤ 400) :
    Calls Tryd.prog 27 #[tV Am cm Ac cc made.length, .slice A n c] w (MadeU w B made msg) := by
  cases h : posL msg made 0 with
  | none =>
    have e1 : withL made msg = made ++ [msg] := by unfold withL; rw [h]; rfl
    have e2 : aheadL made msg = made.length := by unfold aheadL; rw [h]; rfl
    refine (refmake_new Am cm Ac cc made cs B A msg n c w hT0 hfew hBw hp0 hn hn4 h).mono ?_
    rintro e w' ⟨Am', cm', Ac', cc', p, rfl, h1, h2, h3, h4, h5⟩
    unfold MadeU
    rw [e1, e2, List.length_append]
    exact ⟨Am', cm', Ac', cc', _, p, rfl, h1, h2, h3, h4, h5⟩
  | some k =>
    have e1 : withL made msg = made := by unfold withL; rw [h]; rfl
    have e2 : aheadL made msg = k := by unfold aheadL; rw [h]; rfl
    refine (refmake_old Am cm Ac cc made cs B A msg n c k w hT0 hfew hp0 hn h).mono ?_
    rintro e w' ⟨p, rfl, h1, h2, h3⟩
    unfold MadeU
    rw [e1, e2]
    exact ⟨Am, cm, Ac, cc, cs, p, rfl, h1, (hT0.ok p h2).keep h3, hT0.from_ p h2, hT0.keep h3, h3⟩
end Go.Proofs.YtigocnaminkodaaDoor
