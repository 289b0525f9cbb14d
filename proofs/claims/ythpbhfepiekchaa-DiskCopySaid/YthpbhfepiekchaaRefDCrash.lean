/- The reference's Crash: contract. -/
import Derived.Test.YthpbhfepiekchaaRefDFuse
import Derived.Test.YthpbhfepiekchaaCmp
import Derived.Test.YthpbhfepiekchaaRefDAppend
namespace Go.Proofs.Ythpbhfepiekchaa
open Go.ChangeShapes Go.WideShapes Go.ChangeAt Go.RowKit
set_option linter.unusedVariables false
set_option linter.unusedSimpArgs false

theorem used_mem {l : List FileP} {f : FileP} (h : f ∈ l) : f.b.length ≤ usedP l := by
  induction l with
  | nil => cases h
  | cons x q ih =>
    have e : usedP (x :: q) = x.b.length + usedP q := by simp [usedP]
    rcases List.mem_cons.1 h with rfl | h
    · omega
    · have := ih h; omega
def cutR (r : FR) (k : Nat) : FR := ⟨r.name, r.A, r.c, r.b.take (r.lasts + keepP r.file k), r.lasts + keepP r.file k⟩
def crashR : List FR → Nat → List FR
  | [], _ => []
  | r :: q, k => cutR r k :: crashR q (k - keepP r.file k)
theorem crashR_file (rs : List FR) (k : Nat) : (crashR rs k).map FR.file = crashL (rs.map FR.file) k := by
  induction rs generalizing k with
  | nil => rfl
  | cons r q ih => simp only [crashR, List.map_cons, crashL, ih]; rfl
theorem crashR_len (rs : List FR) (k : Nat) : (crashR rs k).length = rs.length := by
  induction rs generalizing k with
  | nil => rfl
  | cons r q ih => simp [crashR, ih]
theorem crashR_mem (rs : List FR) (k : Nat) (q : FR) (h : q ∈ crashR rs k) : ∃ r ∈ rs, ∃ m, q.A = r.A ∧ q.c = r.c ∧ q.b = r.b.take m := by
  induction rs generalizing k with
  | nil => cases h
  | cons r t ih =>
    simp only [crashR, List.mem_cons] at h
    rcases h with rfl | h
    · exact ⟨r, by simp, _, rfl, rfl, rfl⟩
    · obtain ⟨x, hx, m, h1⟩ := ih _ h
      exact ⟨x, by simp [hx], m, h1⟩
theorem crashR_step {rs : List FR} {i : Nat} {r : FR} (h : rs[i]? = some r) (k : Nat) : crashR (rs.drop i) k = cutR r k :: crashR (rs.drop (i + 1)) (k - keepP r.file k) := by
  obtain ⟨h1, h2⟩ := List.getElem?_eq_some_iff.1 h
  rw [List.drop_eq_getElem_cons h1, h2]
  rfl
theorem piece_front {w : World} {A : Option Addr} {c : Nat} {b : List UInt8} (h : PieceOk w ⟨A, c, b⟩) (m : Nat) : PieceOk w ⟨A, c, b.take m⟩ :=
  ⟨h.bytes.front m, by have := h.fits; simp only at this; simp only [List.length_take]; omega, h.most, by have := h.long; simp only at this; simp only [List.length_take]; omega, h.nil⟩
theorem apart_front {A : Option Addr} {b : List UInt8} {k : Nat} (h : Apart A b k) (m : Nat) : Apart A (b.take m) k := fun hn => h (by rw [List.length_take] at hn; omega)
/-- a row of one file -/
def Fact.one (q : FR) : Fact := ⟨fun v w => ∃ A, v = .slice A 1 1 ∧ A ≠ none ∧ FAt w A [q], fun _ _ _ ⟨A, h1, h2, h3⟩ hg => ⟨A, h1, h2, h3.keep hg⟩⟩
section
variable {ops : Array Oper} {Q : Exit → Act → World → Prop} {G : Fact} {o : Oper} {a : Act} {w : World}
theorem run_buildF1 (w : World) (s : ByteArray) (A : Option Addr) (m c : Nat) (i : Int) : (Instr.buildSlice 35 1 #[(0, .agg #[.string s, .slice A m c, .int .i64 i])]).run Try.prog w = .ok (.slice (some ⟨w.heap.size, 0, none⟩) 1 1) (w.alloc (.cells #[.string s, .slice A m c, .int .i64 i] 76)) := by
  go_simp
theorem ok_buildF1 (hg : Region.wanted o (yielded ops a.tmps) = true) (x : Operand) (ho : o.op = .buildSlice 35 1 #[(0, x)]) (q : FR) (n : Nat) (hn : q.b.length = n) (h1 : a.eval x = .agg #[.string (strOf q.name), .slice q.A n q.c, .int .i64 (q.lasts : Int)]) : StepOk Try.prog ops Q (Fact.one q) o a w := by
  subst hn
  have hr := run_buildF1 w (strOf q.name) q.A q.b.length q.c (q.lasts : Int)
  have hnw := heap_alloc_new w (.cells #[.string (strOf q.name), .slice q.A q.b.length q.c, .int .i64 (q.lasts : Int)] 76)
  refine ok_run hg (.slice (some ⟨w.heap.size, 0, none⟩) 1 1) (w.alloc (.cells #[.string (strOf q.name), .slice q.A q.b.length q.c, .int .i64 (q.lasts : Int)] 76)) (by simp [execOp, ho, h1, hr]) ⟨_, rfl, by simp, fun _ => ⟨w.heap.size, 0, rfl, by simp, fun j r hj => ?_⟩⟩ (below_one (Below.refl _ _) _)
  obtain ⟨rfl, rfl⟩ : j = 0 ∧ r = q := by
    cases j with
    | zero => simp at hj; exact ⟨rfl, hj.symm⟩
    | succ j => simp at hj
  exact ⟨by rw [cell_of_row _ _ _ _ _ _ hnw]; rfl, by rw [cell_of_row _ _ _ _ _ _ hnw]; rfl, by rw [cell_of_row _ _ _ _ _ _ hnw]; rfl⟩
end
theorem f_moved {base : Nat} {v : Value} {rs : List FR} {w w' : World} (h : FOwn base v rs w) (hb : ∀ g, v.ownBlock = some g → w'.heap[g]? = w.heap[g]?) : FOwn base v rs w' := by
  refine ⟨h.1, ?_⟩
  rcases h.2 with h0 | ⟨g, cap, cur, rfl, h1, h2, h3⟩
  · exact Or.inl h0
  · exact Or.inr ⟨g, cap, cur, rfl, h1, (hb g rfl).trans h2, h3⟩
/-- what stands at a round's head -/
structure CrSt (w X wr : World) (rs : List FR) (j lf L0 rm : Nat) (ds : List FR) (A : Option Addr) (c : Nat) : Prop where
  turn : Turn (fun k => k = w.heap.size + 2) X wr
  own : FOwn X.heap.size (.slice A j c) ds wr
  len : ds.length = j
  all : ds ++ crashR (rs.drop j) lf = crashR rs L0
  head : TAt wr (w.heap.size + 2) #[.slice A j c, .int .i64 (rm : Int), .bool false, .int .i64 0, .bool false]
set_option maxRecDepth 100000 in
set_option maxHeartbeats 16000000 in
theorem rcrash_any {w : World} {N : Nat → Prop} {v : Value} {D : DiskP} (h : TIs w N v D) (ho : OkP D) (hN : ∀ k, N k → k < w.heap.size) (i : Int) (hi : i ≤ 9223372036854775807) : Calls Try.prog 40 #[v, .int .i64 i] w (TOne w N (crashP D i)) := by
  obtain ⟨A, n, c, rm, fu, left, dd, rfl, hl⟩ := h.letters
  obtain ⟨hX, hZ, hB, hS⟩ := two_blocks w (.slice A n c) (.int .i64 (rm : Int)) (.bool fu) (.int .i64 left) (.bool dd)
  unfold zeroD at hX hZ hB hS
  obtain ⟨rs, hn, hrm, hfu0, hdd0, hT⟩ := hl
  clear hfu0 hdd0
  obtain ⟨L0, hL0⟩ : ∃ L0, i.toNat = L0 := ⟨_, rfl⟩
  have hm1 : max i 0 = (L0 : Int) := by omega
  have hm2 : max 0 i = (L0 : Int) := by omega
  obtain ⟨P, hP⟩ : ∃ P, crashP D i = P := ⟨_, rfl⟩
  have HP : Hid (P = ⟨crashL (rs.map FR.file) L0, rm, none, false⟩) := hideIt (by rw [← hP, hT.files, hrm, ← hL0]; rfl)
  rw [hP]
  have HLB : Hid (L0 ≤ 9223372036854775807) := hideIt (by omega)
  have HX := hideIt hX
  have HZ := hideIt hZ
  have HB := hideIt hB
  have HS := hideIt hS
  have HT := hideIt (hT.fresh hB (With N w.heap.size (w.heap.size + 3)) fun k hk => by rcases hk with h1 | h1; exact Or.inl h1; exact Or.inr h1.1)
  have HN := hideIt hN
  have HNN := hideIt hn
  have HFE : Hid (∀ r ∈ rs, r.lasts ≤ r.b.length ∧ r.b.length ≤ 1048576) := hideIt fun r hr => by
    have h1 : r.file ∈ D.files := by rw [← hT.files]; exact List.mem_map.2 ⟨r, hr, rfl⟩
    have h2 := (ho.each _ h1).1
    have h3 := used_mem h1
    have h4 := ho.used
    have h5 := ho.room
    exact ⟨h2, by have : r.file.b = r.b := rfl; rw [this] at h3; omega⟩
  have HN8 : Hid (n ≤ 8) := hideIt (by rw [← hn, hT.num]; exact ho.many)
  clear hX hZ hB hS h ho hN hn hrm hT hL0 hP
  unfold tV tC
  go_enter Try.func40, Try.ntmps40
  go_upto_region 1 with fail
  generalize (w.alloc (.cells #[.slice A n c, .int .i64 (rm : Int), .bool fu, .int .i64 left, .bool dd] 37)).alloc (.cells #[.slice none 0 0, .int .i64 0, .bool false, .int .i64 0, .bool false] 37) = X at *
  obtain ⟨q0, q1, q2, q3, q4, e0, e1, e2, e3, e4, ql⟩ := HX.out.all
  obtain ⟨hU, hBU, hSU⟩ := third_new X (.slice none 0 0) (.int .i64 (rm : Int)) (.bool false) (.int .i64 0) (.bool false)
  have hxs : X.heap.size = w.heap.size + 2 := HS.out
  rw [hxs] at hU
  have HU := hideIt hU
  have HX3 := hideIt (HX.out.keep (hBU.block _ HX.out.lt))
  have HZ3 := hideIt (HZ.out.keep (hBU.block _ HZ.out.lt))
  have HB3 := hideIt (HB.out.trans (hBU.mono (by omega)))
  have HT3 := hideIt (HT.out.keep hBU)
  have HS3 : Hid ((X.alloc (.cells #[.slice none 0 0, .int .i64 (rm : Int), .bool false, .int .i64 0, .bool false] 37)).heap.size = w.heap.size + 3) := hideIt (by rw [hSU, hxs])
  clear hU hBU hSU
  go_upto_region 3 with fail
  try rw [hxs]
  clear q0 q1 q2 q3 q4 e0 e1 e2 e3 e4 ql hxs
  generalize X.alloc (.cells #[.slice none 0 0, .int .i64 (rm : Int), .bool false, .int .i64 0, .bool false] 37) = X3 at *
  go_wp2_with fail
  go_loopw [5, 7] (fun l i wr => ∃ (j lf : Nat) (ds : List FR) (A' : Option Addr) (c' : Nat), l = .int .i64 (lf : Int) ∧ i = .int .i64 (j : Int) ∧ j ≤ n ∧ lf ≤ L0 ∧ CrSt w X3 wr rs j lf L0 rm ds A' c') (fun l i wr => n - (intOf i).toNat)
  case atStart => exact ⟨0, L0, [], none, 0, rfl, rfl, by omega, by omega, ⟨Turn.refl _ _, FOwn.nil _ _, rfl, by simp, HU.out⟩⟩
  case round =>
    obtain ⟨j, lf, ds, A', c', rfl, rfl, hj, hlf, hst⟩ := hrel
    have HSTR := hideIt hst
    have HH := hideIt hst.head
    have HXr := hideIt (HX3.out.keep (hst.turn.block _ HX3.out.lt (by omega)))
    have HSr : Hid (w.heap.size + 3 ≤ wr.heap.size) := hideIt (by have := HS3.out; have := hst.turn.size; omega)
    have HTr := hideIt (HT3.out.turn (hst.turn.mono fun k hk => Or.inr (by omega)))
    have HJ := hideIt hj
    obtain ⟨q0, q1, q2, q3, q4, e0, e1, e2, e3, e4, ql⟩ := HXr.out.all
    by_cases hlt : j < n
    · have hlt' : (j : Int) < (n : Int) := by omega
      obtain ⟨r, hr⟩ : ∃ r, rs[j]? = some r := ⟨_, List.getElem?_eq_getElem (by rw [HNN.out]; exact hlt)⟩
      obtain ⟨⟨bb, off, rfl, hbb, k1, k2, k3⟩, hpc, _⟩ := HTr.out.file hr
      unfold FR.row at k2
      obtain ⟨hf1, hf2⟩ := HFE.out r (List.mem_of_getElem? hr)
      have hcap := hpc.fits
      simp only at hcap
      obtain ⟨kp, hkp⟩ : ∃ kp, keepP r.file lf = kp := ⟨_, rfl⟩
      have hkp2 : kp = min (r.b.length - r.lasts) lf := by rw [← hkp]; rfl
      have hmn : min ((r.b.length : Int) - (r.lasts : Int)) (lf : Int) = (kp : Int) := by omega
      have hmn2 : min (lf : Int) ((r.b.length : Int) - (r.lasts : Int)) = (kp : Int) := by omega
      have hw1 : IntKind.i64.wrap ((r.b.length : Int) - (r.lasts : Int)) = (r.b.length : Int) - (r.lasts : Int) := IntWalk.i64_in _ (by omega)
      obtain ⟨lf2, hlf2⟩ : ∃ lf2, lf - kp = lf2 := ⟨_, rfl⟩
      have hw2 : IntKind.i64.wrap ((lf : Int) - (kp : Int)) = (lf2 : Int) := by
        have := HLB.out
        rw [← hlf2, show ((lf - kp : Nat) : Int) = (lf : Int) - (kp : Int) by omega]
        exact IntWalk.i64_in _ (by omega)
      have hwj : IntKind.i64.wrap ((j : Int) + 1) = (j : Int) + 1 := IntWalk.i64_in _ (by have := HN8.out; omega)
      have HQL : Hid ((cutR r lf).b.length = r.lasts + kp) := hideIt (by show (r.b.take (r.lasts + keepP r.file lf)).length = _; rw [hkp, List.length_take]; omega)
      have HQ2 : Hid ((cutR r lf).lasts = r.lasts + kp) := hideIt (by show r.lasts + keepP r.file lf = _; rw [hkp])
      have HKC : Hid (r.lasts + kp ≤ r.c) := hideIt (by omega)
      have HKB : Hid (r.lasts + kp < 1000000000) := hideIt (by omega)
      have HALL : Hid ((ds ++ [cutR r lf]) ++ crashR (rs.drop (j + 1)) lf2 = crashR rs L0) := hideIt (by
        rw [← hst.all, crashR_step hr, hkp, hlf2, List.append_assoc]; rfl)
      have HLF : Hid (lf2 ≤ L0) := hideIt (by omega)
      obtain ⟨hY, hBY, hSY⟩ := f_new wr (strOf r.name) r.A r.b.length r.c (r.lasts : Int)
      have HY := hideIt hY
      have HBY := hideIt hBY
      have HH5 := hideIt (HH.out.keep (hBY.block _ HH.out.lt))
      have HDO := hideIt (hst.own.keep hBY)
      have HDL := hideIt hst.len
      clear hf1 hf2 hpc hkp hkp2 hlf2 hY hBY hSY hst hcap
      obtain ⟨f0, f1, f2, h0, h1, h2⟩ := f_cells HY.out
      go_upto_region 9 with fail
      clear q0 q1 q2 q3 q4 e0 e1 e2 e3 e4 ql k1 k2 k3 hbb hmn hmn2 hw1 hw2 f0 f1 f2 h0 h1 h2
      generalize wr.alloc (.cells #[.string (strOf r.name), .slice r.A r.b.length r.c, .int .i64 (r.lasts : Int)] 76) = X5 at *
      obtain ⟨f0, f1, f2, h0, h1, h2⟩ := f_cells HY.out
      obtain ⟨u0, u1, u2, u3, u4, v0, v1, v2, v3, v4, vl⟩ := HH5.out.all
      have HLU := hideIt HH5.out.lt
      have HLY : Hid (wr.heap.size < X5.heap.size) := hideIt (Array.getElem?_eq_some_iff.1 HY.out).1
      refine region_tail 17 [Fact.is (.pointer (some ⟨w.heap.size + 2, 0, none⟩)), Fact.is (.slice A' j c'), Fact.is (.pointer (some ⟨wr.heap.size, 0 + 0, none⟩)), Fact.is (.string (strOf r.name)), Fact.is (.pointer (some ⟨wr.heap.size, 0 + 1, none⟩)), Fact.is (.slice r.A (r.b.length) r.c), Fact.is (.pointer (some ⟨wr.heap.size, 0 + 2, none⟩)), Fact.is (.int .i64 (r.lasts : Int)), Fact.is (.int .i64 (kp : Int)), Fact.is (.int .i64 ((r.lasts + kp : Nat) : Int)), Fact.is (.slice r.A (r.lasts + kp) r.c), Fact.is (.pointer (some ⟨wr.heap.size, 0 + 2, none⟩)), Fact.is (.int .i64 (r.lasts : Int)), Fact.is (.int .i64 (kp : Int)), Fact.is (.int .i64 ((r.lasts + kp : Nat) : Int)), Fact.is (.agg #[.string (strOf r.name), .slice r.A (r.lasts + kp) r.c, .int .i64 ((r.lasts + kp : Nat) : Int)]), Fact.one (cutR r lf)] (by kernel_rfl) (by kernel_rfl) (by kernel_rfl) ⟨fun a w1 m => ?_, fun a w1 m => ?_, fun a w1 m => ?_, fun a w1 m => ?_, fun a w1 m => ?_, fun a w1 m => ?_, fun a w1 m => ?_, fun a w1 m => ?_, fun a w1 m => ?_, fun a w1 m => ?_, fun a w1 m => ?_, fun a w1 m => ?_, fun a w1 m => ?_, fun a w1 m => ?_, fun a w1 m => ?_, fun a w1 m => ?_, fun a w1 m => ?_, trivial⟩ ?_
      · exact ok_fieldTT (wanted_none rfl) (.tmp 6) 0 (by decide) rfl (w.heap.size + 2) (m.old 6 rfl)
      · exact ok_ldFs (wanted_none rfl) (.tmp 38) rfl ⟨w.heap.size + 2, 0, none⟩ _ (m.has 0 38 rfl rfl) ((m.grew.cell (p := ⟨w.heap.size + 2, 0, none⟩) HLU.out).trans u0)
      · exact ok_fieldFl (wanted_none rfl) (.tmp 8) 0 (by decide) rfl wr.heap.size 0 (m.old 8 rfl)
      · exact ok_ldS (wanted_none rfl) (.tmp 40) rfl ⟨wr.heap.size, 0 + 0, none⟩ _ (m.has 2 40 rfl rfl) ((m.grew.cell (p := ⟨wr.heap.size, 0, none⟩) HLY.out).trans f0)
      · exact ok_fieldFl (wanted_none rfl) (.tmp 8) 1 (by decide) rfl wr.heap.size 0 (m.old 8 rfl)
      · exact ok_ldB (wanted_none rfl) (.tmp 42) rfl ⟨wr.heap.size, 0 + 1, none⟩ _ (m.has 4 42 rfl rfl) ((m.grew.cell (p := ⟨wr.heap.size, 1, none⟩) HLY.out).trans f1)
      · exact ok_fieldFl (wanted_none rfl) (.tmp 8) 2 (by decide) rfl wr.heap.size 0 (m.old 8 rfl)
      · exact ok_ldI (wanted_none rfl) (.tmp 44) rfl ⟨wr.heap.size, 0 + 2, none⟩ _ (m.has 6 44 rfl rfl) ((m.grew.cell (p := ⟨wr.heap.size, 2, none⟩) HLY.out).trans f2)
      · exact ok_move (wanted_none rfl) (.tmp 9) rfl (m.old 9 rfl)
      · exact ok_bin (wanted_none rfl) _ _ _ (.tmp 45) (.tmp 46) rfl _ _ _ (m.has 7 45 rfl rfl) (m.has 8 46 rfl rfl) rfl (run_add64 _ _ HKB.out)
      · exact ok_sliceHi (wanted_none rfl) (.tmp 43) (.tmp 47) rfl _ _ _ (r.lasts + kp) (m.has 5 43 rfl rfl) (m.has 9 47 rfl rfl) (HKC.out)
      · exact ok_fieldFl (wanted_none rfl) (.tmp 8) 2 (by decide) rfl wr.heap.size 0 (m.old 8 rfl)
      · exact ok_ldI (wanted_none rfl) (.tmp 49) rfl ⟨wr.heap.size, 0 + 2, none⟩ _ (m.has 11 49 rfl rfl) ((m.grew.cell (p := ⟨wr.heap.size, 2, none⟩) HLY.out).trans f2)
      · exact ok_move (wanted_none rfl) (.tmp 9) rfl (m.old 9 rfl)
      · exact ok_bin (wanted_none rfl) _ _ _ (.tmp 50) (.tmp 51) rfl _ _ _ (m.has 12 50 rfl rfl) (m.has 13 51 rfl rfl) rfl (run_add64 _ _ HKB.out)
      · exact ok_buildFl (wanted_none rfl) (.tmp 41) (.tmp 48) (.tmp 52) rfl _ _ _ _ _ (m.has 3 41 rfl rfl) (m.has 10 48 rfl rfl) (m.has 14 52 rfl rfl)
      · exact ok_buildF1 (wanted_none rfl) (.tmp 53) rfl (cutR r lf) _ HQL.out (by rw [HQ2.out]; exact (m.has 15 53 rfl rfl))
      intro f w9 hg9 hf
      have e1 : f 1 = .slice A' j c' := hf 1 (by decide)
      obtain ⟨FA, e16, hne, hFA⟩ := hf 16 (by decide)
      clear hf
      simp only [List.take, List.drop, putAll, Act.put, List.setIfInBounds_toArray, List.set_cons_succ, List.set_cons_zero]
      rw [e1, show f 16 = _ from e16]
      clear e1 e16
      refine wpList_appF rfl (.tmp 39) (.tmp 54) rfl X3.heap.size _ ds rfl (HDO.out.keep hg9) FA 1 1 [cutR r lf] rfl rfl (fun h => absurd h hne) hFA (by rw [HDL.out]; have := HN8.out; simp; omega) (by have := HSTR.out.turn.size; have := HLY.out; have := hg9.size; omega) ?_
      intro v10 w10 o10 g10
      have HG10 : Hid (∀ k, k < X5.heap.size → k < X3.heap.size → w10.heap[k]? = X5.heap[k]?) := hideIt fun k h1 h2 => (g10.block k (by have := hg9.size; omega) (fun e => by
        have := ((HDO.out.keep hg9).lt k e.symm).1
        omega)).trans (hg9.block k h1)
      have HT10 : Hid (Turn (fun k => k = w.heap.size + 2) X3 w10) := hideIt ((((HSTR.out.turn.trans (Turn.of HBY.out _) fun i hi => Or.inl hi).trans (Turn.of hg9 (fun k => k = w.heap.size + 2)) fun i hi => Or.inl hi)).grown g10 fun k e => Or.inr ((HDO.out.keep hg9).lt k e).1)
      obtain ⟨A10, c10, rfl, _⟩ := o10.open
      have hdl : (ds ++ [cutR r lf]).length = j + 1 := by rw [List.length_append, HDL.out]; rfl
      rw [hdl] at o10
      have H10 := hideIt (HH5.out.keep (HG10.out _ HLU.out (by have := HS3.out; omega)))
      have HO10 := hideIt o10
      have HDL10 := hideIt hdl
      rw [hdl]
      clear o10 g10 hg9 hdl hFA hne f0 f1 f2 h0 h1 h2 u0 u1 u2 u3 u4 v0 v1 v2 v3 v4 vl
      obtain ⟨u0, u1, u2, u3, u4, v0, v1, v2, v3, v4, vl⟩ := H10.out.all
      have HST2 : Hid (CrSt w X3 (w10.setCell ⟨w.heap.size + 2, 0, none⟩ (.slice A10 (j + 1) c10)) rs (j + 1) lf2 L0 rm (ds ++ [cutR r lf]) A10 c10) := hideIt
        ⟨HT10.out.trans (turn_cell w10 ⟨w.heap.size + 2, 0, none⟩ _ (fun k => k = w.heap.size + 2) rfl) fun i hi => Or.inl hi,
          f_moved HO10.out (fun g hg => Below.heap_setCell _ _ _ _ (by have := (HO10.out.lt g hg).1; have := HS3.out; simp only; omega)),
          HDL10.out, HALL.out, H10.out.set 0 _⟩
      go_wp2_with fail
      go_roundw
      case rel => exact ⟨j + 1, lf2, ds ++ [cutR r lf], A10, c10, rfl, by simp, by omega, HLF.out, HST2.out⟩
      case measure => simp [intOf]; omega
    · have hlt' : ¬ (j : Int) < (n : Int) := by omega
      have hlt2 : decide (j < n) = false := decide_eq_false (by omega)
      have hlt3 : decide ((j : Int) < (n : Int)) = false := decide_eq_false (by omega)
      obtain rfl : j = n := by omega
      have hds : ds = crashR rs L0 := by
        have h1 := hst.all
        rw [List.drop_eq_nil_of_le (by rw [HNN.out]; exact Nat.le_refl _)] at h1
        simpa [crashR] using h1
      obtain ⟨A2, c2, hv, hc1, hc2, hc3, hc4, hc5⟩ := hst.own.open
      obtain ⟨rfl, hjd, rfl⟩ : A' = A2 ∧ j = ds.length ∧ c' = c2 := by simpa using hv
      have hc2' : c' ≤ 9223372036854775807 := hc2
      have HE : Hid (TL wr (With N w.heap.size (w.heap.size + 3)) A' j c' rm false 0 false P) := hideIt (by
        refine ⟨ds, hst.len, by rw [HP.out], by rw [HP.out]; rfl, by rw [HP.out], ?_, hc4, ⟨hc1, hc2'⟩, hc3, fun q hq => ?_, fun ad e _ hw => ?_, fun q hq k hk => ?_, fun k hk => ?_, ⟨by omega, by omega⟩⟩
        · rw [HP.out, hds, crashR_file]
        · obtain ⟨x, hx, m, e1, e2, e3⟩ := crashR_mem rs L0 q (hds ▸ hq)
          rw [e1, e2, e3]
          exact piece_front (HTr.out.each x hx) m
        · have h1 := hc5 ad e
          have h2 := HS3.out
          rcases hw with h3 | h3
          · have := HN.out _ h3; omega
          · omega
        · obtain ⟨x, hx, m, e1, e2, e3⟩ := crashR_mem rs L0 q (hds ▸ hq)
          rw [e1, e3]
          exact apart_front (HTr.out.awayE x hx k hk) m
        · rw [HP.out] at hk; cases hk)
      have hZ4 := HZ3.out.keep (hst.turn.block _ HZ3.out.lt (by omega))
      have hB4 := HB3.out.trans (hst.turn.below (B := w.heap.size) (by have := HS3.out; omega) (fun i hi => by omega))
      clear hjd hv hc1 hc2 hc3 hc4 hc5 hc2' hds hst q0 q1 q2 q3 q4 e0 e1 e2 e3 e4 ql
      have hq3 := HX3.out.keep (HSTR.out.turn.block _ HX3.out.lt (by omega))
      obtain ⟨q0, q1, q2, q3, q4, e0, e1, e2, e3, e4, ql⟩ := hq3.all
      obtain ⟨u0, u1, u2, u3, u4, v0, v1, v2, v3, v4, vl⟩ := HH.out.all
      obtain ⟨z0, z1, z2, z3, z4, y0, y1, y2, y3, y4, _⟩ := hZ4.all
      have ZS := hideIt (hZ4.set5 (.slice A' j c') (.int .i64 (rm : Int)) (.bool false) (.int .i64 0) (.bool false))
      have BS := hideIt (below_set5 hB4 (by omega : w.heap.size ≤ w.heap.size + 1) (.slice A' j c') (.int .i64 (rm : Int)) (.bool false) (.int .i64 0) (.bool false))
      clear hZ4 hB4 hq3
      go_wp2_with fail
      refine bodyPost_ret (results_D Try.results40 _ _ (w.heap.size + 1) _ _ _ _ _ rfl (by exact ZS.out)) rfl ?_
      exact one_is (HE.out.ends (w.heap.size + 1) (by omega) _ _ _ _ _) BS.out rfl
end Go.Proofs.Ythpbhfepiekchaa
