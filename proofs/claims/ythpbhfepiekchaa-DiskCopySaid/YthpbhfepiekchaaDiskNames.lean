/- Contract of Names. -/
import Derived.Test.YthpbhfepiekchaaDiskUsed
import Derived.Test.YthpbhfepiekchaaSortStr
import Derived.Test.YthpbhfepiekchaaClone
namespace Go.Proofs.Ythpbhfepiekchaa
open Go.ChangeShapes Go.WideShapes Go.ChangeAt Go.RowKit
set_option linter.unusedVariables false
set_option linter.unusedSimpArgs false

theorem sorted_names {ps : List (List UInt8)} {l : List FileP} (h : Rising l) (hp : ps.Perm (l.map FileP.name)) : (ps.mergeSort fun x y => decide (x ≤ y)) = l.map FileP.name := by
  have tr : ∀ a b c : List UInt8, decide (a ≤ b) = true → decide (b ≤ c) = true → decide (a ≤ c) = true := fun a b c h1 h2 => by simp only [decide_eq_true_eq] at *; exact List.le_trans h1 h2
  have to : ∀ a b : List UInt8, (decide (a ≤ b) || decide (b ≤ a)) = true := fun a b => by simp only [Bool.or_eq_true, decide_eq_true_eq]; exact List.le_total a b
  refine rise_unique ?_ (names_rise h) fun s => ?_
  · refine sorted_rise ((List.pairwise_mergeSort tr to ps).imp fun {a b} hh => ?_) ?_
    · simp only [decide_eq_true_eq] at hh
      exact List.not_lt.2 hh
    · exact ((List.mergeSort_perm ps _).nodup_iff).2 (hp.nodup_iff.2 (names_nodup h))
  · exact ((List.mergeSort_perm ps _).mem_iff).trans hp.mem_iff
def NamesPost (D : DiskP) (w : World) (e : Ending) (w' : World) : Prop := ∃ v, e = .returned v ∧ SOwn w.heap.size v (namesP D) w' ∧ Below w.heap.size w w'
theorem SOwn.at {base : Nat} {v : Value} {ps : List (List UInt8)} {w w' : World} (h : SOwn base v ps w) (hk : ∀ k, base ≤ k → w'.heap[k]? = w.heap[k]?) : SOwn base v ps w' := own_at h fun k hb => hk k (World.ownsRow.lt h k hb).1
theorem SOwn.less {base base' : Nat} {v : Value} {ps : List (List UInt8)} {w : World} (h : SOwn base v ps w) (hb : base' ≤ base) : SOwn base' v ps w := by
  refine ⟨h.1, ?_⟩
  rcases h.2 with h0 | ⟨g, cap, cur, rfl, h1, h2⟩
  · exact .inl h0
  · exact .inr ⟨g, cap, cur, rfl, Nat.le_trans hb h1, h2⟩
set_option maxHeartbeats 4000000 in
theorem names_any {w : World} {d : Nat} {S : Nat → Prop} {D : DiskP} (h : DiskM w d S D) : Calls Try.prog 26 #[.pointer (some ⟨d, 0, none⟩)] w (NamesPost D w) := by
  have hmany := h.1.many
  have hfound := fun s f => h.1.found (s := s) (f := f)
  obtain ⟨h0, m, es, c, left, loc, row, h⟩ := h
  have c1 := h.head.c1
  have hrg : (Instr.range 60 (.map (some m))).run Try.prog w = .ok (.pointer (some ⟨w.heap.size, 0, none⟩)) (w.alloc (.mapIter (some m) c #[] c)) := run_range_map w _ _ _ m es c Try.underlying60 h.map.row
  have H := hideIt h
  have HFD := hideIt hfound
  have HES := hideIt (show es.size ≤ 8 by rw [h.many]; exact hmany)
  clear h h0 hfound hmany
  go_enter Try.func26, Try.ntmps26
  go_wp2
  go_loopw [3] (fun l wr => ∃ ls rest, SOwn (w.heap.size + 1) l (ls.map keyL) wr ∧ (ls = [] → l = .slice none 0 0) ∧ RangeM wr w.heap.size m c es ls rest ∧ Below w.heap.size w wr) (fun _ wr => es.size - (wr.iterSeen w.heap.size).size)
  case atStart => exact ⟨[], es.toList, SOwn.nil _ _, fun _ => rfl, range_start, below_new w _⟩
  case round =>
    obtain ⟨ls, rest, hO, hZ, hR, hB⟩ := hrel
    have HR := hideIt hR
    have HB := hideIt hB
    have HO := hideIt hO
    have HZ := hideIt hZ
    have hD := H.out.keep (w' := wr) fun k hk => hB.block k (H.out.low k hk)
    have hlen : ls.length + rest.length = es.size := by have := hR.perm.length_eq; simpa using this
    rcases range_next (P := Try.prog) hR hD.map 0 with ⟨rfl, hn⟩ | ⟨e, rest', w1, hp, hn, hR1, o1, o2, o3, o4, hoth, hent⟩
    · have hnx : ∀ ty, (Instr.next (.pointer (some ⟨w.heap.size, 0, none⟩)) false ty).run Try.prog wr = .ok (.tuple #[.bool false]) wr := fun ty => hn
      have hperm : (ls.map keyL).Perm (namesP D) := by
        have h1 := hR.perm
        rw [List.append_nil] at h1
        exact (h1.map keyL).trans hD.names
      by_cases hls : ls = []
      · have hv := hZ hls
        subst hv
        have R : Hid (NamesPost D w (.returned (.slice none 0 0)) wr) := hideIt ⟨_, rfl, by
          have : namesP D = [] := by rw [hls] at hperm; exact hperm.symm.eq_nil
          rw [this]; exact SOwn.nil _ _, hB⟩
        have HS := hideIt (sort_none wr)
        clear hn hD hB hR hO hZ hlen hls hperm
        go_wp2_with fail
        refine HS.out.mono ?_
        rintro e w2 ⟨rfl, rfl⟩
        go_wp2_with fail
        go_ret
        exact R.out
      · have hv : u3 ≠ .slice none 0 0 := fun e => by
          subst e
          rcases hO.2 with ⟨_, h0⟩ | ⟨g, cap, cur, h1, _⟩
          · exact hls (List.eq_nil_of_length_eq_zero (by simpa using h0))
          · cases h1
        have HS := hideIt (sort_any hO hv (by rw [List.length_map]; have := HES.out; have h2 : ls.length = es.size := (by simpa using hlen); omega))
        have HSN : Hid (((ls.map keyL).mergeSort fun x y => decide (x ≤ y)) = namesP D) := hideIt (sorted_names H.out.rise hperm)
        have HW : Hid (w.heap.size ≤ wr.heap.size) := hideIt hB.size
        clear hn hD hB hR hZ hlen hls hperm hv hO
        go_wp2_with fail
        refine HS.out.mono ?_
        rintro e w2 ⟨rfl, hs2, hg2⟩
        rw [HSN.out] at hs2
        have R : Hid (NamesPost D w (.returned u3) w2) := hideIt ⟨_, rfl, hs2.less (by omega), HB.out.grown hg2 HW.out fun k hk => by have := (World.ownsRow.lt HO.out k hk).1; omega⟩
        clear hs2 hg2
        go_wp2_with fail
        go_ret
        exact R.out
    · have hnx : ∀ ty, (Instr.next (.pointer (some ⟨w.heap.size, 0, none⟩)) false ty).run Try.prog wr = .ok (.tuple #[.bool true, e.key, e.val]) w1 := fun ty => hn
      have hem : e ∈ es.toList := hR.perm.mem_iff.1 (List.mem_append.2 (.inr (hp.mem_iff.2 (List.mem_cons_self ..))))
      obtain ⟨f, ek, ev, ef⟩ := hD.entry hem
      rw [ek, ev] at hnx hent
      have hnm := (HFD.out _ f ef).2.2.1
      have hb1 : Below w.heap.size w w1 := ⟨o1.trans hB.os, o2.trans hB.tape, o3.trans hB.output, by rw [o4]; exact hB.size, fun k hk => (hoth k (by omega)).trans (hB.block k hk)⟩
      have HB1 := hideIt hb1
      have HO1 := hideIt (hO.at (w' := w1) fun k hk => hoth k (by omega))
      have HR1 := hideIt hR1
      have HC := hideIt (clone_any (strOf (keyL e)) w1 (by rw [strOf_size]; have := hnm.2; omega))
      have HLT : Hid (w.heap.size < w1.heap.size) := hideIt hR1.lt
      have M : Hid (∀ w' : World, w'.heap[w.heap.size]? = w1.heap[w.heap.size]? → es.size - (w'.iterSeen w.heap.size).size < es.size - (wr.iterSeen w.heap.size).size) := hideIt fun w' hw' => by
        have e1 : (w'.iterSeen w.heap.size).size = ls.length + 1 := by unfold World.iterSeen; rw [hw', hR1.it]; simp
        have e2 : (wr.iterSeen w.heap.size).size = ls.length := by unfold World.iterSeen; rw [hR.it]; simp
        have e3 := hR1.perm.length_eq
        simp at e3
        rw [e1, e2]; omega
      have HLL : Hid ((ls.map keyL).length ≤ 8) := hideIt (by rw [List.length_map]; have := HES.out; omega)
      clear hn hD hB hR hp hR1 o1 o2 o3 o4 hoth hem ek ev hb1 hnm hO hZ hlen
      generalize hy : keyL e = y at *
      have HY := hideIt hy
      clear hy
      go_wp2_with fail
      refine HC.out.mono ?_
      rintro e2 w2 ⟨rfl, hb2⟩
      have hO2 := HO1.out.keep hb2
      have HB2 := hideIt (HB1.out.trans (hb2.mono (Nat.le_of_lt HLT.out)))
      have HR2 := hideIt (HR1.out.keep (hb2.block _ HLT.out))
      have HI2 := hideIt (hb2.block _ HLT.out)
      have HL2 : Hid (w.heap.size + 1 ≤ w2.heap.size) := hideIt (by have := HLT.out; have := hb2.size; omega)
      have HO2 := hideIt hO2
      clear hb2 hO2
      go_wp2_with (at_builtin; refine wpList_appT1 rfl (.tmp 16) (.tmp 19) rfl (w.heap.size + 1) _ (ls.map keyL) y rfl HO2.out rfl (by have := HLL.out; omega) HL2.out ?_)
      intro v3 w3 o3 g3
      have hb3 := g3 (w.heap.size + 1) (Nat.le_refl _)
      have hz3 := World.ownsRow.lt o3
      have R : Hid (∃ ls' rest', SOwn (w.heap.size + 1) v3 (ls'.map keyL) w3 ∧ (ls' = [] → v3 = .slice none 0 0) ∧ RangeM w3 w.heap.size m c es ls' rest' ∧ Below w.heap.size w w3) := hideIt
        ⟨ls ++ [e], rest', by rw [List.map_append]; simp only [List.map_cons, List.map_nil]; rw [HY.out]; exact o3, fun h => by simp at h, HR2.out.keep (hb3.block _ (by omega)), HB2.out.trans (hb3.mono (by omega))⟩
      have M2 := hideIt (M.out w3 ((hb3.block _ (by omega)).trans HI2.out))
      clear o3 g3 hb3 hz3
      go_wp2_with fail
      go_roundw
      case rel => exact R.out
      case measure => exact M2.out
end Go.Proofs.Ythpbhfepiekchaa
