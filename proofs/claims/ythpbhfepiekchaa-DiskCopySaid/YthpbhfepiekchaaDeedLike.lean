/- The law's like: contract. -/
import Derived.Test.YthpbhfepiekchaaDeedRun
import Derived.Test.YthpbhfepiekchaaRefTexts
namespace Go.Proofs.Ythpbhfepiekchaa
open Go.ChangeShapes Go.WideShapes Go.ChangeAt Go.RowKit
set_option linter.unusedVariables false
set_option linter.unusedSimpArgs false

/-- append of one text, that lies in a new block -/
theorem wpList_appTG {X : World} {ops : Array Oper} {rest : List Oper} {o : Oper} {a : Act} {Q : Exit → Act → World → Prop} (hgd : o.guard = none) (s x : Operand)
    (ho : o.op = .call { callee := .builtin .append, args := #[s, x], argTypes := #[51, 51] })
    (base : Nat) (v : Value) (ps : List (List UInt8)) (y : List UInt8) (hs : a.eval s = v) (hown : SOwn base v ps X) (hx : a.eval x = .slice (some ⟨X.heap.size, 0, none⟩) 1 1)
    (hlen : ps.length ≤ 200000) (hbase : base ≤ X.heap.size)
    (h : ∀ v' w', SOwn base v' (ps ++ [y]) w' → (X.alloc (.cells #[.string (strOf y)] 9)).grownBy w' v.ownBlock → wpList Try.prog ops Q rest (a.put o.dst v') w') : wpList Try.prog ops Q (o :: rest) a (X.alloc (.cells #[.string (strOf y)] 9)) := by
  obtain ⟨i0, hi, hz0, hz1, hz2⟩ := info_parts info_string
  refine wpList_append_own _ hgd s x 51 ho base 9 i0 (.string ⟨#[]⟩) 1 16 Try.underlying51 hi hz0 hz1 hz2 rfl (by decide) v ps.length _ hs (World.ownsRow.alloc hown _) ⟨X.heap.size, 0, none⟩ 1 1 [.string (strOf y)] hx rfl ?_ (by intro u hu; simp at hu; subst hu; rfl) (by unfold maxLen; omega) (by omega) (by rw [alloc_size]; omega) ?_
  · intro j u hu
    obtain ⟨rfl, rfl⟩ : j = 0 ∧ u = .string (strOf y) := by
      cases j with
      | zero => simp at hu; exact ⟨rfl, hu.symm⟩
      | succ j => simp at hu
    rw [Go.WideShapes.add_plain, cell_of_row _ _ _ _ _ _ (heap_alloc_new X _)]; rfl
  · intro v' w' h1 h2 _
    refine h v' w' ?_ h2
    unfold SOwn
    rw [List.map_append, List.length_append]
    exact h1
theorem ok_stexts {ops : Array Oper} {Q : Exit → Act → World → Prop} {o : Oper} {a : Act} {w : World} (hg : Region.wanted o (yielded ops a.tmps) = true) (x y : Operand) (ts : Array TypeId) (ho : o.op = .call { callee := .value (.func 41), args := #[x, y], argTypes := ts }) (ps qs : List (List UInt8)) (h1 : TextsV (a.eval x) ps w) (h2 : TextsV (a.eval y) qs w) (b : Bool) (hb : decide (ps = qs) = b) (hl : ps.length ≤ 1000000) : StepOk Try.prog ops Q (Fact.is (.bool b)) o a w := by
  subst hb
  exact ok_fn hg _ _ _ ho _ (map2 rfl rfl) go_reftexts (reftexts_any _ _ ps qs w h1 h2 hl) fun e w' ⟨h6, h8⟩ => ⟨_, h6, rfl, h8⟩
theorem find_is {l : List FileP} (h : Rising l) {f : FileP} (hf : f ∈ l) : findP l f.name = some f := by
  induction l with
  | nil => cases hf
  | cons g r ih =>
    have hr := List.pairwise_cons.1 h
    unfold findP
    rcases List.mem_cons.1 hf with rfl | hf
    · rw [if_pos rfl]
    · have h1 := hr.1 f hf
      rw [if_neg (fun e => by rw [e] at h1; exact List.lt_irrefl _ h1)]
      exact ih hr.2 hf
set_option maxRecDepth 100000 in
set_option maxHeartbeats 16000000 in
theorem like_any {w : World} {d : Nat} {S : Nat → Prop} {D : DiskP} (h : DiskM w d S D) {N : Nat → Prop} {v : Value} (ht : TIs w N v D) : Calls Try.prog 24 #[.pointer (some ⟨d, 0, none⟩), v] w fun e w' => e = .returned (.bool true) ∧ Below w.heap.size w w' := by
  obtain ⟨A, n, c, rm, fu, left, dd, rfl, hl⟩ := ht.letters
  have hX := TAt.new w (.slice A n c) (.int .i64 (rm : Int)) (.bool fu) (.int .i64 left) (.bool dd)
  have hB := below_new w (.cells #[.slice A n c, .int .i64 (rm : Int), .bool fu, .int .i64 left, .bool dd] 37)
  have hdd := hl.fits.2.2.2.2.2.1
  have HL := hideIt (hl.keep hB)
  obtain ⟨rs, hn, hrm, hfu0, hdd0, hT⟩ := hl
  have HX := hideIt hX
  have HB := hideIt hB
  have HT := hideIt (hT.keep hB)
  have HNN := hideIt hn
  have HD := hideIt (h.below hB)
  have HO := hideIt h.1
  have HDD := hideIt hdd
  have HFE : Hid (∀ r ∈ rs, findP D.files r.name = some r.file ∧ r.lasts ≤ r.b.length ∧ r.b.length ≤ 1048576 ∧ r.name.length ≤ 20) := hideIt fun r hr => by
    have h1 : r.file ∈ D.files := by rw [← hT.files]; exact List.mem_map.2 ⟨r, hr, rfl⟩
    have h2 := find_is h.1.rise h1
    have h3 := h.1.found h2
    exact ⟨h2, h3.2.1, h3.2.2.2, h3.2.2.1.2⟩
  obtain ⟨ns, hns⟩ : ∃ ns, rs.map FR.name = ns := ⟨_, rfl⟩
  have HNM : Hid (namesP D = ns) := hideIt (by rw [← hns]; unfold namesP; rw [← hT.files, List.map_map]; rfl)
  have HNS := hideIt hns
  have HN8 : Hid (n ≤ 8) := hideIt (by rw [← hn, hT.num]; exact h.1.many)
  clear hns hX hB hdd hn hrm hfu0 hdd0 hT h ht
  unfold tV tC
  go_enter Try.func24, Try.ntmps24
  go_upto_region 1 with fail
  generalize w.alloc (.cells #[.slice A n c, .int .i64 (rm : Int), .bool fu, .int .i64 left, .bool dd] 37) = X at *
  go_wp2_with fail
  go_loopw [5, 6] (fun l i wr => ∃ (j : Nat), i = .int .i64 (j : Int) ∧ j ≤ n ∧ SOwn X.heap.size l (ns.take j) wr ∧ Below X.heap.size X wr) (fun l i wr => n - (intOf i).toNat)
  case atStart => exact ⟨0, rfl, by omega, SOwn.nil _ _, Below.refl _ _⟩
  case round =>
    obtain ⟨j, rfl, hj, ho, hb⟩ := hrel
    have HXr := hideIt (HX.out.keep (hb.block _ HX.out.lt))
    have HTr := hideIt (HT.out.keep hb)
    have HLr := hideIt (HL.out.keep hb)
    have HDr := hideIt (HD.out.below hb)
    have HBr := hideIt hb
    have HBW := hideIt (HB.out.trans (hb.mono HB.out.size))
    have HOW := hideIt ho
    have HJ := hideIt hj
    clear ho hb hj
    obtain ⟨q0, q1, q2, q3, q4, e0, e1, e2, e3, e4, ql⟩ := HXr.out.all
    by_cases hlt : j < n
    · have hlt' : (j : Int) < (n : Int) := by omega
      have hwj : IntKind.i64.wrap ((j : Int) + 1) = (j : Int) + 1 := IntWalk.i64_in _ (by have := HN8.out; omega)
      obtain ⟨r, hr⟩ : ∃ r, rs[j]? = some r := ⟨_, List.getElem?_eq_getElem (by rw [HNN.out]; exact hlt)⟩
      obtain ⟨⟨bb, off, rfl, hbb, k1, k2, k3⟩, hpc, _⟩ := HTr.out.file hr
      unfold FR.row at k2
      obtain ⟨hf0, hf1, hf2, hf3⟩ := HFE.out r (List.mem_of_getElem? hr)
      have HF0 := hideIt hf0
      have HF1 := hideIt hf1
      have HF2 := hideIt hf2
      have HPC := hideIt hpc
      have HMEM := hideIt (List.mem_of_getElem? hr)
      have HTK : Hid (ns.take j ++ [r.name] = ns.take (j + 1)) := hideIt (by
        have h1 : ns[j]? = some r.name := by rw [← HNS.out, List.getElem?_map, hr]; rfl
        rw [List.take_add_one, h1]; rfl)
      have HTL : Hid ((ns.take j).length ≤ 200000) := hideIt (by rw [List.length_take]; have := HN8.out; omega)
      obtain ⟨hY, hBY, hSY⟩ := f_new wr (strOf r.name) r.A r.b.length r.c (r.lasts : Int)
      have HY := hideIt hY
      have HBY := hideIt hBY
      have HO5 := hideIt (HOW.out.keep hBY)
      clear hY hBY hSY hf0 hf1 hf2 hf3 hpc hr
      go_upto_region 6 with fail
      clear q0 q1 q2 q3 q4 e0 e1 e2 e3 e4 ql k1 k2 k3 hbb
      generalize wr.alloc (.cells #[.string (strOf r.name), .slice r.A r.b.length r.c, .int .i64 (r.lasts : Int)] 76) = X5 at *
      obtain ⟨f0, f1, f2, h0, h1, h2⟩ := f_cells HY.out
      go_wp2_with (at_builtin; refine wpList_appTG rfl (.tmp 22) (.tmp 25) rfl X.heap.size _ _ r.name rfl HO5.out rfl HTL.out (by have := HBr.out.size; have := HBY.out.size; omega) ?_)
      intro v6 w6 o6 g6
      rw [HTK.out] at o6
      have hg6 : ∀ k, k < X5.heap.size → (∀ g, u5.ownBlock = some g → k ≠ g) → w6.heap[k]? = X5.heap[k]? := fun k hk hne => (g6.block k (by rw [alloc_size]; omega) (fun e => hne k e.symm rfl)).trans ((below_new X5 _).block k hk)
      have HB6 : Hid (Below X.heap.size X w6) := hideIt (((HBr.out.trans (HBY.out.mono HBr.out.size)).trans ((below_new X5 _).mono (by have := HBr.out.size; have := HBY.out.size; omega))).grown g6 (by have := HBr.out.size; have := HBY.out.size; rw [alloc_size]; omega) (fun k hk => (World.ownsRow.lt HO5.out k hk).1))
      have HY6 : Hid (w6.heap[wr.heap.size]? = some (.cells #[.string (strOf r.name), .slice r.A r.b.length r.c, .int .i64 (r.lasts : Int)] 76 (0, 0))) := hideIt ((hg6 _ (Array.getElem?_eq_some_iff.1 HY.out).1 (fun g hg => by have := (World.ownsRow.lt HOW.out g hg).2; omega)).trans HY.out)
      have HO6 := hideIt o6
      clear f0 f1 f2 h0 h1 h2 g6 o6 hg6
      have HD6 := hideIt (HD.out.below HB6.out)
      have HRD := hideIt (read_any HD6.out r.name)
      obtain ⟨f0, f1, f2, h0, h1, h2⟩ := f_cells HY6.out
      go_wp2_with fail
      refine HRD.out.mono ?_
      rintro e w7 ⟨v7, rfl, hv7, hb7⟩
      rw [show readL D r.name = r.b by unfold readL; rw [HF0.out]; rfl] at hv7
      rw [HF0.out]
      simp only [Option.isSome_some]
      obtain ⟨A5, c5, rfl, _, hp5⟩ := own_pieceAny hv7 (by have := HF2.out; omega)
      have HP5 := hideIt hp5
      have HY7 := hideIt ((hb7.block _ (Array.getElem?_eq_some_iff.1 HY6.out).1).trans HY6.out)
      have HD7 := hideIt (HD6.out.below hb7)
      have HB7 := hideIt (HB6.out.trans (hb7.mono HB6.out.size))
      have HO7 := hideIt (HO6.out.keep hb7)
      have HPR := hideIt ((HT.out.keep HB7.out).each r HMEM.out)
      have HPL := hideIt (piece_front HPR.out r.lasts)
      have HLL : Hid ((r.b.take r.lasts).length = r.lasts) := hideIt (by rw [List.length_take]; have := HF1.out; omega)
      have HLS : Hid (lastL D r.name = r.b.take r.lasts) := hideIt (by unfold lastL; rw [HF0.out]; rfl)
      have HLY : Hid (wr.heap.size < w7.heap.size) := hideIt (Array.getElem?_eq_some_iff.1 HY7.out).1
      have HKC : Hid (r.lasts ≤ r.c) := hideIt (by have h1 := HPR.out.fits; simp only at h1; have := HF1.out; omega)
      have HBB := hideIt (below_then HB.out HB7.out)
      clear f0 f1 f2 h0 h1 h2 hv7 hb7 hp5
      obtain ⟨f0, f1, f2, h0, h1, h2⟩ := f_cells HY7.out
      go_upto_region 8 with fail
      refine region_inv [Fact.is (.bool true), Fact.is (.bool false), Fact.is (.bool false), Fact.is (.slice A5 (r.b.length) c5), Fact.str (r.b), Fact.is (.pointer (some ⟨wr.heap.size, 0 + 1, none⟩)), Fact.is (.slice r.A (r.b.length) r.c), Fact.str (r.b), Fact.is (.bool false), Fact.is (.bool false), Fact.is (.bool false), Fact.is (.pointer (some ⟨d, 0, none⟩)), Fact.is (.pointer (some ⟨wr.heap.size, 0 + 0, none⟩)), Fact.str (r.name), Fact.piece ((r.b.take r.lasts)), Fact.str ((r.b.take r.lasts)), Fact.is (.pointer (some ⟨wr.heap.size, 0 + 1, none⟩)), Fact.is (.slice r.A (r.b.length) r.c), Fact.is (.pointer (some ⟨wr.heap.size, 0 + 2, none⟩)), Fact.is (.int .i64 (r.lasts : Int)), Fact.is (.slice r.A r.lasts r.c), Fact.str ((r.b.take r.lasts)), Fact.is (.bool false), Fact.is (.bool false)] (by kernel_rfl) (by kernel_rfl) ⟨fun a w1 m => ?_, fun a w1 m => ?_, fun a w1 m => ?_, fun a w1 m => ?_, fun a w1 m => ?_, fun a w1 m => ?_, fun a w1 m => ?_, fun a w1 m => ?_, fun a w1 m => ?_, fun a w1 m => ?_, fun a w1 m => ?_, fun a w1 m => ?_, fun a w1 m => ?_, fun a w1 m => ?_, fun a w1 m => ?_, fun a w1 m => ?_, fun a w1 m => ?_, fun a w1 m => ?_, fun a w1 m => ?_, fun a w1 m => ?_, fun a w1 m => ?_, fun a w1 m => ?_, fun a w1 m => ?_, fun a w1 m => ?_, trivial⟩ ?_
      · exact ok_move (wanted_none rfl) (.tmp 9) rfl (m.old 9 rfl)
      · exact ok_not1 (wanted_none rfl) _ (.tmp 34) rfl true (m.has 0 34 rfl rfl) rfl
      · exact ok_move (wanted_none rfl) (.tmp 35) rfl (m.has 1 35 rfl rfl)
      · exact ok_move (wanted_some 2 false rfl 36 rfl false (m.has 2 36 rfl rfl)) (.tmp 8) rfl (m.old 8 rfl)
      · exact ok_str (wanted_some 2 false rfl 36 rfl false (m.has 2 36 rfl rfl)) (.tmp 37) rfl _ (by rw [show a.eval (.tmp 37) = _ from m.has 3 37 rfl rfl]; exact ⟨_, _, by rw [(rfl : r.b.length = r.b.length)], HP5.out.keep m.grew⟩)
      · exact ok_fieldFl (wanted_some 2 false rfl 36 rfl false (m.has 2 36 rfl rfl)) (.tmp 7) 1 (by decide) rfl wr.heap.size 0 (m.old 7 rfl)
      · exact ok_ldB (wanted_some 2 false rfl 36 rfl false (m.has 2 36 rfl rfl)) (.tmp 39) rfl ⟨wr.heap.size, 0 + 1, none⟩ _ (m.has 5 39 rfl rfl) ((m.grew.cell (p := ⟨wr.heap.size, 1, none⟩) HLY.out).trans f1)
      · exact ok_str (wanted_some 2 false rfl 36 rfl false (m.has 2 36 rfl rfl)) (.tmp 40) rfl _ (by rw [show a.eval (.tmp 40) = _ from m.has 6 40 rfl rfl]; exact ⟨_, _, by rw [(rfl : r.b.length = r.b.length)], HPR.out.keep m.grew⟩)
      · exact ok_strne (wanted_some 2 false rfl 36 rfl false (m.has 2 36 rfl rfl)) (.tmp 38) (.tmp 41) _ rfl _ _ (m.has 4 38 rfl rfl) (m.has 7 41 rfl rfl) _ (decide_eq_true rfl)
      · exact ok_pickF (wanted_none rfl) (.tmp 36) _ _ rfl (m.has 2 36 rfl rfl) (m.has 8 42 rfl rfl)
      · exact ok_move (wanted_none rfl) (.tmp 43) rfl (m.has 9 43 rfl rfl)
      · exact ok_move (wanted_some 10 false rfl 44 rfl false (m.has 10 44 rfl rfl)) (.tmp 0) rfl (m.old 0 rfl)
      · exact ok_fieldFl (wanted_some 10 false rfl 44 rfl false (m.has 10 44 rfl rfl)) (.tmp 7) 0 (by decide) rfl wr.heap.size 0 (m.old 7 rfl)
      · exact ok_ldS (wanted_some 10 false rfl 44 rfl false (m.has 10 44 rfl rfl)) (.tmp 46) rfl ⟨wr.heap.size, 0 + 0, none⟩ _ (m.has 12 46 rfl rfl) ((m.grew.cell (p := ⟨wr.heap.size, 0, none⟩) HLY.out).trans f0)
      · exact ok_fn (wanted_some 10 false rfl 44 rfl false (m.has 10 44 rfl rfl)) _ _ _ rfl _ (map2 (m.has 11 45 rfl rfl) (m.has 13 47 rfl rfl)) go_lasting (lasting_any (HD7.out.below m.grew) r.name) (fun e w' h => last_piece h HLS.out (by rw [HLL.out]; have := HF1.out; have := HF2.out; omega))
      · exact ok_str (wanted_some 10 false rfl 44 rfl false (m.has 10 44 rfl rfl)) (.tmp 48) rfl _ (m.has 14 48 rfl rfl)
      · exact ok_fieldFl (wanted_some 10 false rfl 44 rfl false (m.has 10 44 rfl rfl)) (.tmp 7) 1 (by decide) rfl wr.heap.size 0 (m.old 7 rfl)
      · exact ok_ldB (wanted_some 10 false rfl 44 rfl false (m.has 10 44 rfl rfl)) (.tmp 50) rfl ⟨wr.heap.size, 0 + 1, none⟩ _ (m.has 16 50 rfl rfl) ((m.grew.cell (p := ⟨wr.heap.size, 1, none⟩) HLY.out).trans f1)
      · exact ok_fieldFl (wanted_some 10 false rfl 44 rfl false (m.has 10 44 rfl rfl)) (.tmp 7) 2 (by decide) rfl wr.heap.size 0 (m.old 7 rfl)
      · exact ok_ldI (wanted_some 10 false rfl 44 rfl false (m.has 10 44 rfl rfl)) (.tmp 52) rfl ⟨wr.heap.size, 0 + 2, none⟩ _ (m.has 18 52 rfl rfl) ((m.grew.cell (p := ⟨wr.heap.size, 2, none⟩) HLY.out).trans f2)
      · exact ok_sliceHi (wanted_some 10 false rfl 44 rfl false (m.has 10 44 rfl rfl)) (.tmp 51) (.tmp 53) rfl _ _ _ r.lasts (m.has 17 51 rfl rfl) (m.has 19 53 rfl rfl) (HKC.out)
      · exact ok_str (wanted_some 10 false rfl 44 rfl false (m.has 10 44 rfl rfl)) (.tmp 54) rfl _ (by rw [show a.eval (.tmp 54) = _ from m.has 20 54 rfl rfl]; exact ⟨_, _, by rw [HLL.out], HPL.out.keep m.grew⟩)
      · exact ok_strne (wanted_some 10 false rfl 44 rfl false (m.has 10 44 rfl rfl)) (.tmp 49) (.tmp 55) _ rfl _ _ (m.has 15 49 rfl rfl) (m.has 21 55 rfl rfl) _ (decide_eq_true rfl)
      · exact ok_pickF (wanted_none rfl) (.tmp 44) _ _ rfl (m.has 10 44 rfl rfl) (m.has 22 56 rfl rfl)
      intro f w9 hg hf
      have e23 : f 23 = .bool false := hf 23 (by decide)
      have B9 := hideIt (below_then HBB.out hg)
      clear hf
      simp only [List.take, List.drop, putAll, Act.put, List.setIfInBounds_toArray, List.set_cons_succ, List.set_cons_zero]
      rw [e23]
      clear e23
      have HO9 := hideIt (HO7.out.keep hg)
      have HB9 := hideIt (HB7.out.trans (hg.mono HB7.out.size))
      clear f0 f1 f2 h0 h1 h2 hg
      go_wp2_with fail
      go_roundw
      case rel => exact ⟨j + 1, by simp, by omega, HO9.out, HB9.out⟩
      case measure => simp [intOf]; omega
    · have hlt' : ¬ (j : Int) < (n : Int) := by omega
      have hlt2 : decide (j < n) = false := decide_eq_false (by omega)
      have hlt3 : decide ((j : Int) < (n : Int)) = false := decide_eq_false (by omega)
      have hjn : j = n := by have := HJ.out; omega
      have HTV : Hid (TextsV u5 ns wr) := hideIt (by
        have h1 := HOW.out.reads
        rw [hjn, List.take_of_length_le (by rw [← HNS.out, List.length_map, HNN.out]; exact Nat.le_refl _)] at h1
        exact h1)
      have HNL : Hid ((namesP D).length ≤ 1000000) := hideIt (by rw [HNM.out, ← HNS.out, List.length_map, HNN.out]; have := HN8.out; omega)
      have HLX := hideIt HXr.out.lt
      clear hjn
      go_upto_region 10 with fail
      refine region_inv [Fact.is (.pointer (some ⟨d, 0, none⟩)), Fact.texts (namesP D), Fact.texts ns, Fact.is (.bool true), Fact.is (.bool true), Fact.is (.pointer (some ⟨d, 0, none⟩)), Fact.is (.int .i64 ((usedP D.files : Nat) : Int)), Fact.is (.agg #[.slice A n c, .int .i64 (rm : Int), .bool fu, .int .i64 left, .bool dd]), Fact.is (.int .i64 ((usedP D.files : Nat) : Int)), Fact.is (.bool true), Fact.is (.bool true), Fact.is (.bool true), Fact.is (.pointer (some ⟨d, 0, none⟩)), Fact.is (.bool dd), Fact.is (.pointer (some ⟨w.heap.size, 4, none⟩)), Fact.is (.bool dd), Fact.is (.bool true), Fact.is (.bool true), Fact.is (.bool true)] (by kernel_rfl) (by kernel_rfl) ⟨fun a w1 m => ?_, fun a w1 m => ?_, fun a w1 m => ?_, fun a w1 m => ?_, fun a w1 m => ?_, fun a w1 m => ?_, fun a w1 m => ?_, fun a w1 m => ?_, fun a w1 m => ?_, fun a w1 m => ?_, fun a w1 m => ?_, fun a w1 m => ?_, fun a w1 m => ?_, fun a w1 m => ?_, fun a w1 m => ?_, fun a w1 m => ?_, fun a w1 m => ?_, fun a w1 m => ?_, fun a w1 m => ?_, trivial⟩ ?_
      · exact ok_move (wanted_none rfl) (.tmp 0) rfl (m.old 0 rfl)
      · exact ok_fn (wanted_none rfl) _ _ _ rfl _ (map1 (m.has 0 58 rfl rfl)) go_namesD (names_any (HDr.out.below m.grew)) (fun e w' ⟨v, h1, h2, h3⟩ => ⟨v, h1, h2.reads, h3⟩)
      · exact ok_move (wanted_none rfl) (.tmp 5) rfl (by rw [m.old 5 rfl]; exact HTV.out.keep m.grew)
      · exact ok_stexts (wanted_none rfl) _ _ _ rfl (namesP D) ns (m.has 1 59 rfl rfl) (by have h := m.has 2 60 rfl rfl; exact h) true (decide_eq_true HNM.out) HNL.out
      · exact ok_move (wanted_none rfl) (.tmp 61) rfl (m.has 3 61 rfl rfl)
      · exact ok_move (wanted_some 4 true rfl 62 rfl true (m.has 4 62 rfl rfl)) (.tmp 0) rfl (m.old 0 rfl)
      · exact ok_fn (wanted_some 4 true rfl 62 rfl true (m.has 4 62 rfl rfl)) _ _ _ rfl _ (map1 (m.has 5 63 rfl rfl)) go_usedD (used_any (HDr.out.below m.grew)) (fun e w' ⟨h1, h2⟩ => ⟨_, h1, rfl, h2⟩)
      · exact ok_loadTT (wanted_some 4 true rfl 62 rfl true (m.has 4 62 rfl rfl)) (.tmp 3) rfl (w.heap.size) _ _ _ _ _ (m.old 3 rfl) (HXr.out.keep (m.grew.block _ HLX.out))
      · exact ok_fn (wanted_some 4 true rfl 62 rfl true (m.has 4 62 rfl rfl)) _ _ _ rfl _ (map1 (m.has 7 65 rfl rfl)) go_rused ((HLr.out.keep m.grew).call_used HO.out) (fun e w' ⟨h1, h2⟩ => ⟨_, h1, rfl, h2⟩)
      · exact ok_inteq (wanted_some 4 true rfl 62 rfl true (m.has 4 62 rfl rfl)) (.tmp 64) (.tmp 66) _ rfl _ _ (m.has 6 64 rfl rfl) (m.has 8 66 rfl rfl) _ (by simp)
      · exact ok_pickT (wanted_none rfl) (.tmp 62) _ _ rfl (m.has 4 62 rfl rfl) (m.has 9 67 rfl rfl)
      · exact ok_move (wanted_none rfl) (.tmp 68) rfl (m.has 10 68 rfl rfl)
      · exact ok_move (wanted_some 11 true rfl 69 rfl true (m.has 11 69 rfl rfl)) (.tmp 0) rfl (m.old 0 rfl)
      · exact ok_fn (wanted_some 11 true rfl 69 rfl true (m.has 11 69 rfl rfl)) _ _ _ rfl _ (map1 (m.has 12 70 rfl rfl)) go_dead (dead_any (HDr.out.below m.grew)) (fun e w' ⟨h1, h2⟩ => ⟨_, h1, by rw [← HDD.out]; rfl, by rw [h2]; exact Below.refl _ _⟩)
      · exact ok_fieldTT (wanted_some 11 true rfl 69 rfl true (m.has 11 69 rfl rfl)) (.tmp 3) 4 (by decide) rfl (w.heap.size) (m.old 3 rfl)
      · exact ok_ldO (wanted_some 11 true rfl 69 rfl true (m.has 11 69 rfl rfl)) (.tmp 72) rfl ⟨w.heap.size, 4, none⟩ _ (m.has 14 72 rfl rfl) ((m.grew.cell (p := ⟨w.heap.size, 4, none⟩) HLX.out).trans q4)
      · exact ok_booleq (wanted_some 11 true rfl 69 rfl true (m.has 11 69 rfl rfl)) (.tmp 71) (.tmp 73) _ rfl _ _ (m.has 13 71 rfl rfl) (m.has 15 73 rfl rfl) _ (by simp)
      · exact ok_pickT (wanted_none rfl) (.tmp 69) _ _ rfl (m.has 11 69 rfl rfl) (m.has 16 74 rfl rfl)
      · exact ok_assign (wanted_none rfl) (.tmp 75) rfl (m.has 17 75 rfl rfl)
      intro f w9 hg hf
      exact fin_ret ‹_› rfl rfl rfl 18 rfl ⟨congrArg Ending.returned (hf 18 (by decide)), below_then HBW.out hg⟩
theorem go_like : goFn Try.prog 24 = true := by kernel_rfl
end Go.Proofs.Ythpbhfepiekchaa
