/- Contract of Copy. -/
import Derived.Test.YthpbhfepiekchaaDiskAppend
import Derived.Test.YthpbhfepiekchaaDiskCrash
namespace Go.Proofs.Ythpbhfepiekchaa
open Go.ChangeShapes Go.WideShapes Go.ChangeAt Go.RowKit
set_option linter.unusedVariables false
set_option linter.unusedSimpArgs false

/-- a file's struct, by value: its bytes are the call's own -/
def Fact.fval (base n : Nat) (b : List UInt8) : Fact := ⟨fun v w => ∃ u, v = .agg #[u, .int .i64 (n : Int)] ∧ w.ownsRow base 5 1 u b.length (cellsOf b),
  fun _ w w' ⟨u, h1, h2⟩ hg => ⟨u, h1, own_at h2 fun k hk => hg.block k (World.ownsRow.lt h2 k hk).2⟩⟩
def Fact.orow (base : Nat) (b : List UInt8) : Fact := ⟨fun v w => w.ownsRow base 5 1 v b.length (cellsOf b),
  fun _ w w' h2 hg => own_at h2 fun k hk => hg.block k (World.ownsRow.lt h2 k hk).2⟩
/-- a file in a block of its own -/
def Fact.fbox (base n : Nat) (b : List UInt8) : Fact := ⟨fun v w => ∃ g u, v = .pointer (some ⟨g, 0, none⟩) ∧ base ≤ g ∧ w.heap[g]? = some (.cells #[u, .int .i64 (n : Int)] 67 (0, 0)) ∧ w.ownsRow base 5 1 u b.length (cellsOf b) ∧ ∀ k, u.ownBlock = some k → k ≠ g,
  fun _ w w' ⟨g, u, h1, h2, h3, h4, h5⟩ hg => ⟨g, u, h1, h2, (hg.block g (Array.getElem?_eq_some_iff.1 h3).1).trans h3, own_at h4 fun k hk => hg.block k (World.ownsRow.lt h4 k hk).2, h5⟩⟩
section
variable {ops : Array Oper} {Q : Exit → Act → World → Prop} {o : Oper} {a : Act} {w : World}
theorem ok_buildFv (hg : Region.wanted o (yielded ops a.tmps) = true) (x y : Operand) (ho : o.op = .build 67 #[(0, x), (1, y)]) (base n : Nat) (b : List UInt8) (h1 : (Fact.orow base b).p (a.eval x) w) (h2 : a.eval y = .int .i64 (n : Int)) : StepOk Try.prog ops Q (Fact.fval base n b) o a w := by
  obtain ⟨A, c, hv, _⟩ := own_open h1
  have h1' : w.ownsRow base 5 1 (a.eval x) b.length (cellsOf b) := h1
  rw [hv] at h1'
  refine ok_same (G := Fact.fval base n b) hg (.agg #[.slice A b.length c, .int .i64 (n : Int)]) ?_ ⟨_, rfl, h1'⟩
  simp only [execOp, ho, List.map_toArray, List.map, hv, h2]
  go_simp
theorem run_boxFv (w : World) (A : Option Addr) (m c : Nat) (n : Int) : (Instr.box 67 (.agg #[.slice A m c, .int .i64 n])).run Try.prog w = .ok (.pointer (some ⟨w.heap.size, 0, none⟩)) (w.alloc (.cells #[.slice A m c, .int .i64 n] 67)) := by
  go_simp
theorem ok_boxFv (hg : Region.wanted o (yielded ops a.tmps) = true) (x : Operand) (ho : o.op = .box 67 x) (base n : Nat) (b : List UInt8) (hb : base ≤ w.heap.size) (h1 : (Fact.fval base n b).p (a.eval x) w) : StepOk Try.prog ops Q (Fact.fbox base n b) o a w := by
  obtain ⟨u, hx, hu⟩ := h1
  obtain ⟨A, c, rfl, _⟩ := own_open hu
  have hr := run_boxFv w A b.length c (n : Int)
  have hB := below_new w (.cells #[.slice A b.length c, .int .i64 (n : Int)] 67)
  refine ok_run (G := Fact.fbox base n b) hg (.pointer (some ⟨w.heap.size, 0, none⟩)) (w.alloc (.cells #[.slice A b.length c, .int .i64 (n : Int)] 67)) (by simp [execOp, ho, hx, hr]) ⟨_, _, rfl, hb, heap_alloc_new w _, own_at hu fun k hk => hB.block k (World.ownsRow.lt hu k hk).2, fun k hk => ?_⟩ (below_one (Below.refl _ _) _)
  have := (World.ownsRow.lt hu k hk).2
  omega
end
theorem HeadAt.load {w : World} {d room m : Nat} {left : Int} {dead : Bool} (h : HeadAt w d room m left dead) : (loadVar 62 ⟨d, 0, none⟩).run Try.prog w = .ok (.agg #[.int .i64 (room : Int), .map (some m), .int .i64 left, .bool dead]) w :=
  run_loadVar_row (P := Try.prog) w d 62 62 _ (0, 0) _ h Try.underlying62 rfl (by kernel_rfl)
theorem copy_mem (w : World) (D : DiskP) (left : Int) (hf : FuseIs left D.fuse) (hfit : -9223372036854775808 ≤ left ∧ left ≤ 9223372036854775807) : let X := (w.alloc (.cells #[.int .i64 (D.room : Int), .map (some (w.heap.size + 1)), .int .i64 left, .bool D.dead] 62)).alloc (.map #[] 0)
    DiskIn X w.heap.size (w.heap.size + 1) #[] 0 left (fun _ => 0) (fun _ => .slice none 0 0) (fun k => k = w.heap.size ∨ k = w.heap.size + 1) ⟨[], D.room, D.fuse, D.dead⟩ ∧ Below w.heap.size w X ∧ X.heap.size = w.heap.size + 2 := by
  have hsz : (w.alloc (.cells #[.int .i64 (D.room : Int), .map (some (w.heap.size + 1)), .int .i64 left, .bool D.dead] 62)).heap.size = w.heap.size + 1 := by simp
  have h0 : ((w.alloc (.cells #[.int .i64 (D.room : Int), .map (some (w.heap.size + 1)), .int .i64 left, .bool D.dead] 62)).alloc (.map #[] 0)).heap[w.heap.size]? = some (.cells #[.int .i64 (D.room : Int), .map (some (w.heap.size + 1)), .int .i64 left, .bool D.dead] 62 (0, 0)) := by
    rw [Below.heap_alloc _ _ _ (by omega)]
    exact heap_alloc_new w _
  have h1 : ((w.alloc (.cells #[.int .i64 (D.room : Int), .map (some (w.heap.size + 1)), .int .i64 left, .bool D.dead] 62)).alloc (.map #[] 0)).heap[w.heap.size + 1]? = some (.map #[] 0) := by
    have h2 := heap_alloc_new (w.alloc (.cells #[.int .i64 (D.room : Int), .map (some (w.heap.size + 1)), .int .i64 left, .bool D.dead] 62)) (.map #[] 0)
    rw [hsz] at h2
    exact h2
  have hB : Below w.heap.size w ((w.alloc (.cells #[.int .i64 (D.room : Int), .map (some (w.heap.size + 1)), .int .i64 left, .bool D.dead] 62)).alloc (.map #[] 0)) := below_one (below_new w _) _
  have hz : ((w.alloc (.cells #[.int .i64 (D.room : Int), .map (some (w.heap.size + 1)), .int .i64 left, .bool D.dead] 62)).alloc (.map #[] 0)).heap.size = w.heap.size + 2 := by simp
  generalize (w.alloc (.cells #[.int .i64 (D.room : Int), .map (some (w.heap.size + 1)), .int .i64 left, .bool D.dead] 62)).alloc (.map #[] 0) = Y at *
  exact ⟨{ head := h0, map := ⟨h1, MapKept.stamped_empty 0, by simp⟩, fuse := hf, fits := hfit, look := fun s => rfl, many := rfl, file := fun s f hf => (by cases hf), inj := fun s t f g hf => (by cases hf), rinj := fun s t f g k hf => (by cases hf), rise := List.Pairwise.nil, low := fun k hk => (by rw [hz]; omega), mineD := .inl rfl, mineM := .inr rfl, mineF := fun s f hf => (by cases hf) }, hB, hz⟩
theorem own_zero {w : World} {base n : Nat} {e : TypeId} {v : Value} {cs : List Value} (h : w.ownsRow base e 1 v n cs) : w.ownsRow 0 e 1 v n cs := by
  refine ⟨h.1, ?_⟩
  rcases h.2 with h0 | ⟨g, cap, cur, rfl, h1, h2⟩
  · exact Or.inl h0
  · exact Or.inr ⟨g, cap, cur, rfl, Nat.zero_le _, h2⟩
theorem own_less {w : World} {base base' n : Nat} {e : TypeId} {v : Value} {cs : List Value} (h : w.ownsRow base e 1 v n cs) (hb : base' ≤ base) : w.ownsRow base' e 1 v n cs := by
  refine ⟨h.1, ?_⟩
  rcases h.2 with h0 | ⟨g, cap, cur, rfl, h1, h2⟩
  · exact Or.inl h0
  · exact Or.inr ⟨g, cap, cur, rfl, Nat.le_trans hb h1, h2⟩
def CopyPost (S : Nat → Prop) (D : DiskP) (w : World) (e : Ending) (w' : World) : Prop := ∃ d' S', e = .returned (.pointer (some ⟨d', 0, none⟩)) ∧ DiskM w' d' S' D ∧ Below w.heap.size w w' ∧ ∀ k, S' k → w.heap.size ≤ k
/-- what stands at a round's head -/
def CopySt (w : World) (r0 m c : Nat) (es : Array MapEntry) (left : Int) (D : DiskP) (wr : World) : Prop := ∃ (ls rest : List MapEntry) (es2 : Array MapEntry) (c2 : Nat) (loc2 : List UInt8 → Nat) (row2 : List UInt8 → Value) (S2 : Nat → Prop) (F : List FileP),
  RangeM wr r0 m c es ls rest ∧ DiskIn wr w.heap.size (w.heap.size + 1) es2 c2 left loc2 row2 S2 ⟨F, D.room, D.fuse, D.dead⟩ ∧ (∀ t, findP F t = if t ∈ ls.map keyL then findP D.files t else none) ∧ (∀ k, S2 k → w.heap.size ≤ k ∧ k ≠ r0) ∧ Below w.heap.size w wr
set_option maxRecDepth 100000 in
set_option maxHeartbeats 16000000 in
theorem copy_any {w : World} {d : Nat} {S : Nat → Prop} {D : DiskP} (h : DiskM w d S D) : Calls Try.prog 23 #[.pointer (some ⟨d, 0, none⟩)] w (CopyPost S D w) := by
  have HSZ := hideIt (fun s f => h.size (s := s) (f := f))
  have HNL := hideIt (fun s f (hf : findP D.files s = some f) => (h.1.found hf).2.2.1.2)
  have HOK := hideIt h.1
  obtain ⟨h0, m, es, c, left, loc, row, h⟩ := h
  have HI := hideIt h
  have hmm := @run_makeMap Try.prog
  have c0 := h.head.c0
  have c1 := h.head.c1
  have c2 := h.head.c2
  have c3 := h.head.c3
  obtain ⟨k1, k2, k3⟩ := copy_mem w D left h.fuse h.fits
  have HK1 := hideIt k1
  have HK2 := hideIt k2
  have HK3 := hideIt k3
  have q1 := q24n w d
  clear h h0 k1 k2 k3
  go_enter Try.func23, Try.ntmps23
  go_upto_region 5 with fail
  clear c0 c1 c2 c3
  generalize (w.alloc (.cells #[.int .i64 (D.room : Int), .map (some (w.heap.size + 1)), .int .i64 left, .bool D.dead] 62)).alloc (.map #[] 0) = X at *
  have hrg : (Instr.range 60 (.map (some m))).run Try.prog X = .ok (.pointer (some ⟨X.heap.size, 0, none⟩)) (X.alloc (.mapIter (some m) c #[] c)) := run_range_map X _ _ _ m es c Try.underlying60 (HI.out.below HK2.out).map.row
  have c1 := (HI.out.below HK2.out).head.c1
  have hst : CopySt w X.heap.size m c es left D (X.alloc (.mapIter (some m) c #[] c)) := ⟨[], es.toList, #[], 0, _, _, _, [], range_start, HK1.out.below (below_new X _), fun t => rfl, fun k hk => by have := HK3.out; omega, HK2.out.trans ((below_new X _).mono HK2.out.size)⟩
  have HST := hideIt hst
  have HR0 : Hid (X.heap.size = w.heap.size + 2) := hideIt HK3.out
  clear hst
  generalize hr0 : X.heap.size = r0 at *
  go_wp2_with fail
  clear hrg c1
  go_loopw [] (fun wr => CopySt w r0 m c es left D wr) (fun wr => es.size - (wr.iterSeen r0).size)
  case atStart => exact HST.out
  case round =>
    obtain ⟨ls, rest, es2, c2, loc2, row2, S2, F, hR, hD2, hF, hS2, hB⟩ := hrel
    have hD := HI.out.below hB
    rcases range_next (P := Try.prog) hR hD.map 0 with ⟨rfl, hn⟩ | ⟨e, rest', w2, hp, hn, hR1, o1, o2, o3, o4, hoth, hent⟩
    · have hnx : ∀ ty, (Instr.next (.pointer (some ⟨r0, 0, none⟩)) false ty).run Try.prog wr = .ok (.tuple #[.bool false]) wr := fun ty => hn
      have hperm : (ls.map keyL).Perm (namesP D) := by
        have h1 := hR.perm
        rw [List.append_nil] at h1
        exact (h1.map keyL).trans hD.names
      have hFD : F = D.files := rising_same hD2.rise HOK.out.rise fun t => by
        rw [hF t]
        by_cases ht : t ∈ ls.map keyL
        · rw [if_pos ht]
        · rw [if_neg ht]
          cases hq : findP D.files t with
          | none => rfl
          | some f =>
            obtain ⟨h1, h2⟩ := findP_name hq
            exact absurd (hperm.mem_iff.2 (List.mem_map.2 ⟨f, h2, h1⟩)) ht
      subst hFD
      have R : Hid (CopyPost S D w (.returned (.pointer (some ⟨w.heap.size, 0, none⟩))) wr) := hideIt ⟨_, S2, rfl, ⟨HOK.out, _, _, _, _, _, _, hD2⟩, hB, fun k hk => (hS2 k hk).1⟩
      clear hR hD2 hF hS2 hB hD hn hperm
      go_wp2_with fail
      go_ret
      exact R.out
    · have hnx : ∀ ty, (Instr.next (.pointer (some ⟨r0, 0, none⟩)) false ty).run Try.prog wr = .ok (.tuple #[.bool true, e.key, e.val]) w2 := fun ty => hn
      have hem : e ∈ es.toList := hR.perm.mem_iff.1 (List.mem_append.2 (.inr (hp.mem_iff.2 (List.mem_cons_self ..))))
      obtain ⟨f, ek, ev, ef⟩ := hD.entry hem
      rw [ek, ev] at hnx hent
      have hns : keyL e ∉ ls.map keyL := fun hin => by
        have h1 := keys_nodup hD.map
        unfold keysM at h1
        rw [← (hR.perm.map keyL).nodup_iff, List.map_append, List.nodup_append] at h1
        exact h1.2.2 _ hin _ (List.mem_map.2 ⟨e, hp.mem_iff.2 (List.mem_cons_self ..), rfl⟩) rfl
      obtain ⟨s, hs⟩ : ∃ s, keyL e = s := ⟨_, rfl⟩
      rw [hs] at hnx hent hns ef
      have HKS : Hid ((ls ++ [e]).map keyL = ls.map keyL ++ [s]) := hideIt (by rw [List.map_append, ← hs]; rfl)
      have hDo := hD.keep (w' := w2) fun k hk => hoth k (by have h1 := HI.out.low k hk; have := HR0.out; omega)
      have hD2o := hD2.keep (w' := w2) fun k hk => hoth k (hS2 k hk).2
      have hB2 : Below w.heap.size w w2 := ⟨o1.trans hB.os, o2.trans hB.tape, o3.trans hB.output, by rw [o4]; exact hB.size, fun k hk => (hoth k (by have := HR0.out; omega)).trans (hB.block k hk)⟩
      have hfile := hDo.file s f ef
      obtain ⟨A0, ca, hv, hpc⟩ := hfile.piece (by have := HSZ.out s f ef; omega)
      have HPC := hideIt hpc
      have HL0 : Hid (w2.cell? ⟨loc s, 0, none⟩ = some (.slice A0 f.b.length ca)) := hideIt (by rw [← hv]; exact hfile.c0)
      have HL1 : Hid (w2.cell? ⟨loc s, 1, none⟩ = some (.int .i64 (f.lasts : Int))) := hideIt hfile.c1
      have HLL := hideIt hfile.lt
      have HC1 := hideIt hD2o.head.c1
      have HCL := hideIt hD2o.head.lt
      have HD2 := hideIt hD2o
      have HB2 := hideIt hB2
      have HR1 := hideIt hR1
      have HF := hideIt hF
      have HS2 := hideIt hS2
      have HNS := hideIt hns
      have HEF := hideIt ef
      have HTL : Hid (s.length ≤ 140737488355328) := hideIt (by have := HNL.out s f ef; omega)
      have HIT : Hid ((wr.iterSeen r0).size = ls.length) := hideIt (by unfold World.iterSeen; rw [hR.it]; simp)
      have HSZ2 : Hid (ls.length + 1 ≤ es.size) := hideIt (by
        have e3 := hR.perm.length_eq
        have e4 := hp.length_eq
        simp at e3 e4
        omega)
      have HRL := hideIt hR1.lt
      clear hR hD2 hF hS2 hB hD hn hp hR1 o1 o2 o3 o4 hoth hem ek ev ef hns hs hDo hD2o hB2 hfile hv hpc
      go_upto_region 8 with fail
      refine region_tail 15 [Fact.is (.pointer (some ⟨w.heap.size, 1, none⟩)), Fact.is (.map (some (w.heap.size + 1))), Fact.str (s), Fact.str (s), Fact.is (.pointer (some ⟨loc s, 0, none⟩)), Fact.is (.pointer (some ⟨loc s, 0, none⟩)), Fact.is (.pointer (some ⟨loc s, 0, none⟩)), Fact.is (.slice A0 (f.b.length) ca), Fact.orow w2.heap.size f.b, Fact.is (.pointer (some ⟨loc s, 0, none⟩)), Fact.is (.pointer (some ⟨loc s, 0, none⟩)), Fact.is (.pointer (some ⟨loc s, 1, none⟩)), Fact.is (.int .i64 (f.lasts : Int)), Fact.fval w2.heap.size f.lasts f.b, Fact.fbox w2.heap.size f.lasts f.b] (by kernel_rfl) (by kernel_rfl) (by kernel_rfl) ⟨fun a w1 m => ?_, fun a w1 m => ?_, fun a w1 m => ?_, fun a w1 m => ?_, fun a w1 m => ?_, fun a w1 m => ?_, fun a w1 m => ?_, fun a w1 m => ?_, fun a w1 m => ?_, fun a w1 m => ?_, fun a w1 m => ?_, fun a w1 m => ?_, fun a w1 m => ?_, fun a w1 m => ?_, fun a w1 m => ?_, trivial⟩ ?_
      · exact ok_fieldD (wanted_none rfl) (.tmp 3) 1 (by decide) rfl (w.heap.size) (m.old 3 rfl)
      · exact ok_loadMp (wanted_none rfl) (.tmp 23) rfl ⟨w.heap.size, 1, none⟩ _ (m.has 0 23 rfl rfl) ((m.grew.cell (p := ⟨w.heap.size, 1, none⟩) HCL.out).trans HC1.out)
      · exact ok_move (wanted_none rfl) (.tmp 4) rfl (m.old 4 rfl)
      · exact ok_fn (wanted_none rfl) _ _ _ rfl _ (map1 (m.has 2 25 rfl rfl)) go_sclone (clone_any (strOf s) w1 HTL.out) (fun e w' ⟨h1, h2⟩ => ⟨_, h1, rfl, h2⟩)
      · exact ok_move (wanted_none rfl) (.tmp 5) rfl (m.old 5 rfl)
      · exact ok_nilCk (wanted_none rfl) (.tmp 27) rfl ⟨loc s, 0, none⟩ (m.has 4 27 rfl rfl)
      · exact ok_fieldF (wanted_none rfl) (.tmp 28) 0 (by decide) rfl (loc s) (m.has 5 28 rfl rfl)
      · exact ok_loadRw (wanted_none rfl) (.tmp 29) rfl ⟨loc s, 0, none⟩ _ (m.has 6 29 rfl rfl) ((m.grew.cell (p := ⟨loc s, 0, none⟩) HLL.out).trans HL0.out)
      · exact ok_fn (wanted_none rfl) _ _ _ rfl _ (map1 (m.has 7 30 rfl rfl)) go_oclone (oclone_any A0 f.b _ ca w1 (HPC.out.keep m.grew) rfl) (fun e w' ⟨v, h1, h2, h3⟩ => ⟨v, h1, own_less h2 m.grew.size, h3⟩)
      · exact ok_move (wanted_none rfl) (.tmp 5) rfl (m.old 5 rfl)
      · exact ok_nilCk (wanted_none rfl) (.tmp 32) rfl ⟨loc s, 0, none⟩ (m.has 9 32 rfl rfl)
      · exact ok_fieldF (wanted_none rfl) (.tmp 33) 1 (by decide) rfl (loc s) (m.has 10 33 rfl rfl)
      · exact ok_loadN (wanted_none rfl) (.tmp 34) rfl ⟨loc s, 1, none⟩ _ (m.has 11 34 rfl rfl) ((m.grew.cell (p := ⟨loc s, 1, none⟩) HLL.out).trans HL1.out)
      · exact ok_buildFv (wanted_none rfl) (.tmp 31) (.tmp 35) rfl w2.heap.size f.lasts f.b (m.has 8 31 rfl rfl) (m.has 12 35 rfl rfl)
      · exact ok_boxFv (wanted_none rfl) (.tmp 36) rfl w2.heap.size f.lasts f.b m.grew.size (m.has 13 36 rfl rfl)
      intro fz w9 hg hf
      have e1 : fz 1 = .map (some (w.heap.size + 1)) := hf 1 (by decide)
      have e3 : fz 3 = .string (strOf s) := hf 3 (by decide)
      obtain ⟨g, u, e14, hbase, hbox, hrow, hown⟩ := hf 14 (by decide)
      clear hf
      simp only [List.take, List.drop, putAll, Act.put, List.setIfInBounds_toArray, List.set_cons_succ, List.set_cons_zero]
      rw [e1, e3, show fz 14 = _ from e14]
      clear e1 e3 e14
      have hI9 := HD2.out.keep (w' := w9) fun k hk => hg.block k (HD2.out.low k hk)
      obtain ⟨es9, c9, hupd, hm9, u1, u2, u3⟩ := run_updT (P := Try.prog) hI9.map Try.underlying60 Try.underlying9 s (.pointer (some ⟨g, 0, none⟩))
      have hfm : g ≠ w.heap.size + 1 := hI9.map_ne hbox
      have hml : w.heap.size + 1 < w2.heap.size := HD2.out.low _ HD2.out.mineM
      have hrow9 : (w9.putObj (w.heap.size + 1) (.map es9 c9)).ownsRow 0 5 1 u f.b.length (cellsOf f.b) := own_zero (own_at hrow fun k hk => World.putObj_heap_other (by have := (World.ownsRow.lt hrow k hk).1; omega))
      have hJ := hI9.putin (w' := w9.putObj (w.heap.size + 1) (.map es9 c9)) (s := s) (fb := g) (v := u) (b := f.b) (n := f.lasts) hm9 u1 u2 u3 ⟨by rw [World.putObj_heap_other hfm]; exact hbox, hrow9⟩ (fun k hk hkm => World.putObj_heap_other hkm) (by simp [World.putObj])
        (fun t q ht hg2 => by have h1 := HD2.out.low _ (HD2.out.mineF t q hg2).1; omega) (fun t q k ht hg2 hk e2 => by have h1 := HD2.out.low _ ((HD2.out.mineF t q hg2).2 k hk); have h2 := (World.ownsRow.lt hrow k e2).1; omega)
      have hBp : Below w.heap.size w (w9.putObj (w.heap.size + 1) (.map es9 c9)) := (HB2.out.trans (hg.mono HB2.out.size)).trans ((turn_put w9 (w.heap.size + 1) (.map es9 c9) (fun k => k = w.heap.size + 1) rfl).below (by have := HB2.out.size; have := hg.size; omega) fun i hi => by omega)
      have hRp : RangeM (w9.putObj (w.heap.size + 1) (.map es9 c9)) r0 m c es (ls ++ [e]) rest' := HR1.out.keep ((World.putObj_heap_other (by have := HR0.out; omega)).trans (hg.block r0 HRL.out))
      have R : Hid (CopySt w r0 m c es left D (w9.putObj (w.heap.size + 1) (.map es9 c9))) := hideIt
        ⟨ls ++ [e], rest', es9, c9, _, _, _, _, hRp, hJ, fun t => by
          rw [HKS.out]
          have hfn := findP_name HEF.out
          by_cases ht : t = s
          · subst ht
            rw [if_pos (by simp)]
            have := find_put_same F ⟨t, f.b, f.lasts⟩
            simp only at this
            rw [this, HEF.out, ← hfn.1]
          · rw [find_put_other F ⟨s, f.b, f.lasts⟩ (t := t) ht, HF.out t]
            by_cases h1 : t ∈ ls.map keyL
            · rw [if_pos h1, if_pos (List.mem_append.2 (.inl h1))]
            · rw [if_neg h1, if_neg (by simp only [List.mem_append, List.mem_singleton]; exact fun h => h.elim h1 ht)], fun k hk => by
          have h1 := HB2.out.size
          have h2 := HRL.out
          rcases hk with hk | rfl | hk
          · exact HS2.out k hk
          · omega
          · have := (World.ownsRow.lt hrow k hk).1; omega, hBp⟩
      have M : Hid (es.size - ((w9.putObj (w.heap.size + 1) (.map es9 c9)).iterSeen r0).size < es.size - (wr.iterSeen r0).size) := hideIt (by
        have e1 : ((w9.putObj (w.heap.size + 1) (.map es9 c9)).iterSeen r0).size = ls.length + 1 := by unfold World.iterSeen; rw [hRp.it]; simp
        have := HIT.out
        have := HSZ2.out
        rw [e1]; omega)
      clear hI9 hm9 u1 u2 u3 hfm hml hrow9 hJ hBp hRp hbox hrow hown hg hbase
      go_wp2_with fail
      go_roundw
      case rel => exact R.out
      case measure => exact M.out
theorem go_copy : goFn Try.prog 23 = true := by kernel_rfl
end Go.Proofs.Ythpbhfepiekchaa
