/- Contract of Used. -/
import Derived.Test.YthpbhfepiekchaaDiskFind
import Derived.Test.YthpbhfepiekchaaMapRange
import Derived.Test.YthpbhfepiekchaaDiskWays
namespace Go.Proofs.Ythpbhfepiekchaa
open Go.ChangeShapes Go.WideShapes Go.ChangeAt Go.RowKit
set_option linter.unusedVariables false
set_option linter.unusedSimpArgs false

section
variable {w : World} {d m c : Nat} {es : Array MapEntry} {left : Int} {loc : List UInt8 → Nat} {row : List UInt8 → Value} {S : Nat → Prop} {D : DiskP}
theorem DiskIn.entry (h : DiskIn w d m es c left loc row S D) {e : MapEntry} (he : e ∈ es.toList) : ∃ f, e.key = .string (strOf (keyL e)) ∧ e.val = .pointer (some ⟨loc (keyL e), 0, none⟩) ∧ findP D.files (keyL e) = some f := by
  have hk := (keyL_iff (h.map.keys e he)).1 rfl
  have hv := val_some h.map.stamp he hk
  rw [h.look] at hv
  cases hf : findP D.files (keyL e) with
  | none => rw [hf] at hv; cases hv
  | some f => rw [hf] at hv; exact ⟨f, hk, (Option.some.inj hv).symm, rfl⟩
theorem names_nodup {l : List FileP} (h : Rising l) : (l.map FileP.name).Nodup := by
  have : (l.map FileP.name).Pairwise (· < ·) := List.pairwise_map.2 h
  exact this.imp fun h e => by subst e; exact List.lt_irrefl _ h
theorem DiskIn.names (h : DiskIn w d m es c left loc row S D) : (es.toList.map keyL).Perm (namesP D) :=
  (List.perm_ext_iff_of_nodup (keys_nodup h.map) (names_nodup h.rise)).2 fun s => by
    have h1 := keys_mem h.map s
    rw [h.look, Option.isSome_map] at h1
    exact h1.trans (names_mem s).symm
def lenD (D : DiskP) (s : List UInt8) : Nat := (readL D s).length
theorem used_lens (D : DiskP) (h : Rising D.files) : ((namesP D).map (lenD D)).sum = usedP D.files := by
  unfold namesP usedP
  rw [List.map_map]
  congr 1
  refine List.map_congr_left fun f hf => ?_
  show lenD D f.name = f.b.length
  have h1 : findP D.files f.name = some f := by
    cases hf2 : findP D.files f.name with
    | none => exact absurd rfl (findP_none.1 hf2 f hf)
    | some g =>
      obtain ⟨h3, h4⟩ := findP_name hf2
      congr 1
      by_cases hfg : g = f
      · exact hfg
      · exfalso
        obtain ⟨i, hi⟩ := List.getElem?_of_mem hf
        obtain ⟨j, hj⟩ := List.getElem?_of_mem h4
        obtain ⟨hi1, hi2⟩ := List.getElem?_eq_some_iff.1 hi
        obtain ⟨hj1, hj2⟩ := List.getElem?_eq_some_iff.1 hj
        rcases Nat.lt_trichotomy i j with hij | hij | hij
        · have := List.pairwise_iff_getElem.1 h i j hi1 hj1 hij
          rw [hi2, hj2, h3] at this; exact List.lt_irrefl _ this
        · subst hij; exact hfg (hj2.symm.trans hi2)
        · have := List.pairwise_iff_getElem.1 h j i hj1 hi1 hij
          rw [hi2, hj2, h3] at this; exact List.lt_irrefl _ this
  simp [lenD, readL, h1]
/-- what the entries that were handed out add up to -/
theorem DiskIn.sums (h : DiskIn w d m es c left loc row S D) {ls rest : List MapEntry} (hp : (ls ++ rest).Perm es.toList) : (ls.map fun e => lenD D (keyL e)).sum + (rest.map fun e => lenD D (keyL e)).sum = usedP D.files := by
  rw [← List.sum_append_nat, ← List.map_append, ← used_lens D h.rise]
  refine List.Perm.sum_nat ?_
  have := (hp.map keyL).trans h.names
  have h2 := this.map (lenD D)
  rwa [List.map_map] at h2
end
set_option maxHeartbeats 2000000 in
theorem used_any {w : World} {d : Nat} {S : Nat → Prop} {D : DiskP} (h : DiskM w d S D) : Calls Try.prog 28 #[.pointer (some ⟨d, 0, none⟩)] w fun e w' => e = .returned (.int .i64 (usedP D.files : Nat)) ∧ Below w.heap.size w w' := by
  have hU : usedP D.files ≤ 1048576 := Nat.le_trans h.1.used h.1.room
  have hsz := fun s f => h.size (s := s) (f := f)
  obtain ⟨h0, m, es, c, left, loc, row, h⟩ := h
  have c1 := h.head.c1
  have hrg : (Instr.range 60 (.map (some m))).run Try.prog w = .ok (.pointer (some ⟨w.heap.size, 0, none⟩)) (w.alloc (.mapIter (some m) c #[] c)) := run_range_map w _ _ _ m es c Try.underlying60 h.map.row
  have H := hideIt h
  have HS := hideIt hsz
  clear h h0 hsz
  go_enter Try.func28, Try.ntmps28
  go_wp2
  go_loopw [3] (fun n wr => ∃ ls rest, n = .int .i64 ((ls.map fun e => lenD D (keyL e)).sum : Nat) ∧ RangeM wr w.heap.size m c es ls rest ∧ Below w.heap.size w wr) (fun _ wr => es.size - (wr.iterSeen w.heap.size).size)
  case atStart => exact ⟨[], es.toList, rfl, range_start, below_new w _⟩
  case round =>
    obtain ⟨ls, rest, rfl, hR, hB⟩ := hrel
    have HR := hideIt hR
    have HB := hideIt hB
    have hD := H.out.keep (w' := wr) fun k hk => hB.block k (H.out.low k hk)
    rcases range_next (P := Try.prog) hR hD.map 0 with ⟨rfl, hn⟩ | ⟨e, rest', w1, hp, hn, hR1, o1, o2, o3, o4, hoth, hent⟩
    · have hnx : ∀ ty, (Instr.next (.pointer (some ⟨w.heap.size, 0, none⟩)) false ty).run Try.prog wr = .ok (.tuple #[.bool false]) wr := fun ty => hn
      have hs := hD.sums hR.perm
      have R : Hid ((ls.map fun e => lenD D (keyL e)).sum = usedP D.files) := hideIt (by simpa using hs)
      clear hn hs hD hB hR
      go_wp2
      rw [R.out]
      go_ret
      exact ⟨rfl, HB.out⟩
    · have hnx : ∀ ty, (Instr.next (.pointer (some ⟨w.heap.size, 0, none⟩)) false ty).run Try.prog wr = .ok (.tuple #[.bool true, e.key, e.val]) w1 := fun ty => hn
      have hem : e ∈ es.toList := hR.perm.mem_iff.1 (List.mem_append.2 (.inr (hp.mem_iff.2 (List.mem_cons_self ..))))
      obtain ⟨f, ek, ev, ef⟩ := hD.entry hem
      rw [ek, ev] at hnx hent
      have hfl := HS.out _ f ef
      have hfile := H.out.file _ f ef
      obtain ⟨A, c', hv, _⟩ := hfile.piece (by omega)
      have hb1 : Below w.heap.size w w1 := ⟨o1.trans hB.os, o2.trans hB.tape, o3.trans hB.output, by rw [o4]; exact hB.size, fun k hk => (hoth k (by omega)).trans (hB.block k hk)⟩
      have c0 : w1.cell? ⟨loc (keyL e), 0, none⟩ = some (.slice A f.b.length c') := by rw [hb1.cell hfile.lt, hfile.c0, hv]
      have hl1 : lenD D (keyL e) = f.b.length := by simp [lenD, readL, ef]
      have hs1 := hD.sums hR1.perm
      have hs2 : ((ls ++ [e]).map fun e => lenD D (keyL e)).sum = (ls.map fun e => lenD D (keyL e)).sum + f.b.length := by rw [List.map_append, List.sum_append_nat]; simp [hl1]
      have HS2 := hideIt hs2
      have hw : IntKind.i64.wrap (((ls.map fun e => lenD D (keyL e)).sum : Nat) + (f.b.length : Int)) = (((ls.map fun e => lenD D (keyL e)).sum : Nat) : Int) + (f.b.length : Int) := IntWalk.i64_in _ (by omega)
      have R : Hid (∃ ls' rest', Value.int .i64 ((((ls.map fun e => lenD D (keyL e)).sum : Nat) : Int) + (f.b.length : Int)) = .int .i64 ((ls'.map fun e => lenD D (keyL e)).sum : Nat) ∧ RangeM w1 w.heap.size m c es ls' rest' ∧ Below w.heap.size w w1) := hideIt ⟨ls ++ [e], rest', by rw [hs2]; simp, hR1, hb1⟩
      have M : Hid (es.size - (w1.iterSeen w.heap.size).size < es.size - (wr.iterSeen w.heap.size).size) := hideIt (by
        have e1 : (w1.iterSeen w.heap.size).size = ls.length + 1 := by unfold World.iterSeen; rw [hR1.it]; simp
        have e2 : (wr.iterSeen w.heap.size).size = ls.length := by unfold World.iterSeen; rw [hR.it]; simp
        have e3 := hR1.perm.length_eq
        simp at e3
        rw [e1, e2]; omega)
      clear hn hs1 hs2 hl1 hD hB hR hp hR1 o1 o2 o3 o4 hoth hem ek ev hfile hv hb1
      generalize ((ls.map fun e => lenD D (keyL e)).sum : Nat) = su at *
      go_wp2
      go_roundw
      case rel => exact R.out
      case measure => exact M.out
end Go.Proofs.Ythpbhfepiekchaa
