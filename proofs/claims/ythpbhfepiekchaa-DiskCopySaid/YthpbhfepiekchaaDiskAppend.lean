/- Contract of Append. -/
import Derived.Test.YthpbhfepiekchaaDiskActs
import Derived.Test.YthpbhfepiekchaaDiskSync
import Derived.Test.YthpbhfepiekchaaDiskTakes
import Derived.Test.YthpbhfepiekchaaInvTake
import Derived.Maps.AppendAt
namespace Go.Proofs.Ythpbhfepiekchaa
open Go.ChangeShapes Go.WideShapes Go.ChangeAt Go.RowKit
set_option linter.unusedVariables false
set_option linter.unusedSimpArgs false

/-- append of whatever bytes onto a row of the call's own: where the new row lies -/
theorem run_app_at (w : World) (base : Nat) (v : Value) (n : Nat) (xs : List UInt8) (hown : w.ownsRow base 5 1 v n (cellsOf xs)) (A : Option Addr) (c : Nat) (bs : List UInt8) (hp : PieceOk w ⟨A, c, bs⟩) (hlen : n + bs.length ≤ 140737488355328) (hbase : base ≤ w.heap.size) :
    ∃ v' w', (∀ ty, (Builtin.append_ #[22, 22] ty #[v, .slice A bs.length c]).run Try.prog w = .ok v' w') ∧ w'.ownsRow base 5 1 v' (n + bs.length) (cellsOf (xs ++ bs)) ∧ w.grownBy w' v.ownBlock ∧ (v'.ownBlock = v.ownBlock ∨ v'.ownBlock = some w.heap.size) := by
  obtain ⟨i0, hi, hz0, hz1, hz2⟩ := info_parts info_u8
  rcases A with _ | ad
  · obtain rfl := hp.nil rfl
    have hbs : bs = [] := by
      have := hp.fits
      simp only at this
      exact List.eq_nil_of_length_eq_zero (by omega)
    subst hbs
    refine ⟨v, w, fun ty => ?_, by simpa using hown, ⟨rfl, rfl, rfl, Nat.le_refl _, fun _ _ _ => rfl⟩, .inl rfl⟩
    exact run_append_owned_none (w := w) base 22 ty 5 i0 1 Try.underlying22 hi v n _ hown
  · obtain ⟨v', w', h1, h2, h3, _, h5⟩ := run_append_own_at (P := Try.prog) w base 22 0 5 i0 (.int .u8 0) 1 1 Try.underlying22 hi hz0 hz1 hz2 rfl (by decide) v n _ hown ad bs.length c (cellsOf bs) (by rw [cellsOf_length, Nat.mul_one]) (fun j u hu => by
      have hj : j < bs.length := by
        rcases Nat.lt_or_ge j bs.length with hh | hh
        · exact hh
        · rw [List.getElem?_eq_none (by rw [cellsOf_length]; exact hh)] at hu; cases hu
      obtain ⟨b, off, he, _, hc⟩ := hp.bytes (by simp only; omega)
      obtain rfl := Option.some.inj he
      rw [cellsOf_at bs j hj] at hu
      rw [Go.WideShapes.add_plain, hc j hj, hu]) (fun u hu => by
      obtain ⟨b, _, rfl⟩ := List.mem_map.1 hu
      rfl) (by unfold maxLen; omega) (by omega) hbase
    exact ⟨v', w', fun ty => h1, by rw [cellsOf_append]; exact h2, h3, h5⟩
/-- append at the operation, by its run -/
theorem wpList_appAt {w : World} {ops : Array Oper} {rest : List Oper} {o : Oper} {a : Act} {Q : Exit → Act → World → Prop} (hgd : o.guard = none) (s x : Operand)
    (ho : o.op = .call { callee := .builtin .append, args := #[s, x], argTypes := #[22, 22] }) (v xv v' : Value) (w'' : World) (hs : a.eval s = v) (hx : a.eval x = xv)
    (hrun : ∀ ty, (Builtin.append_ #[22, 22] ty #[v, xv]).run Try.prog w = .ok v' w'') (h : wpList Try.prog ops Q rest (a.put o.dst v') w'') : wpList Try.prog ops Q (o :: rest) a w := by
  refine wpList_plain hgd fun K hK => ?_
  unfold Oper.wp execOp
  simp only [ho, resolve, invoke, builtin, Sem.run_bind, Sem.run_pure, Result.andThen_ok, List.map_toArray, List.map_cons, List.map_nil, hs, hx, hrun]
  exact hK _ _ h
theorem PieceOk.turn {w w' : World} {S : Nat → Prop} {A : Option Addr} {c : Nat} {bs : List UInt8} (h : PieceOk w ⟨A, c, bs⟩) (ht : Turn S w w') (ha : ∀ k, S k → Apart A bs k) : PieceOk w' ⟨A, c, bs⟩ := by
  refine ⟨fun hn => ?_, h.fits, h.most, h.long, h.nil⟩
  obtain ⟨q, off, e, hq, hc⟩ := h.bytes hn
  refine ⟨q, off, e, Nat.lt_of_lt_of_le hq ht.size, fun j hj => ?_⟩
  rw [← hc j hj]
  simp only [World.cell?, ht.block q hq fun hs => ha q hs hn _ e rfl]
theorem PieceOk.apartNew {w : World} {A : Option Addr} {c : Nat} {bs : List UInt8} (h : PieceOk w ⟨A, c, bs⟩) {k : Nat} (hk : w.heap.size ≤ k) : Apart A bs k := fun hn ad e he => by
  obtain ⟨q, off, e2, hq, _⟩ := h.bytes hn
  simp only at e2
  rw [e] at e2
  obtain rfl := Option.some.inj e2
  simp only at he
  omega
section
variable {w : World} {d m c : Nat} {es : Array MapEntry} {left : Int} {loc : List UInt8 → Nat} {row : List UInt8 → Value} {S : Nat → Prop} {D : DiskP}
/-- a file's row grows -/
theorem DiskIn.longer (h : DiskIn w d m es c left loc row S D) {s : List UInt8} {f : FileP} (hf : findP D.files s = some f) {v' : Value} {w' : World} {bs : List UInt8} (hown : w'.ownsRow 0 5 1 v' (f.b.length + bs.length) (cellsOf (f.b ++ bs))) (hg : w.grownBy w' (row s).ownBlock) (hat : v'.ownBlock = (row s).ownBlock ∨ v'.ownBlock = some w.heap.size) :
    w'.cell? ⟨loc s, 0, none⟩ = some (row s) ∧ w'.frozen? ⟨loc s, 0, none⟩ = false ∧ ∃ row' S', DiskIn (w'.setCell ⟨loc s, 0, none⟩ v') d m es c left loc row' S' ⟨putP D.files ⟨s, f.b ++ bs, f.lasts⟩, D.room, D.fuse, D.dead⟩ ∧ Turn S w (w'.setCell ⟨loc s, 0, none⟩ v') ∧ ∀ k, S' k → S k ∨ w.heap.size ≤ k := by
  have hfile := h.file s f hf
  have hmine := h.mineF s f hf
  have hne : ∀ k, (row s).ownBlock = some k → loc s ≠ k := fun k hk => h.loc_row hf hf hk
  have hbx : w'.heap[loc s]? = w.heap[loc s]? := hg.block _ hfile.lt fun e => hne _ e.symm rfl
  have hfb : FileAt w' (loc s) (row s) f.b f.lasts ∨ True := .inr trivial
  have hbox : w'.heap[loc s]? = some (.cells #[row s, .int .i64 (f.lasts : Int)] 67 (0, 0)) := hbx.trans hfile.box
  refine ⟨by rw [cell_of_row w' _ _ _ _ _ hbox]; rfl, Lib.frozen_of_heap hbox 0, ?_⟩
  have hnew : ∀ k, v'.ownBlock = some k → loc s ≠ k := fun k hk => by
    rcases hat with e | e
    · exact hne k (e ▸ hk)
    · rw [e] at hk; obtain rfl := Option.some.inj hk; have := hfile.lt; omega
  have hsz : (w'.setCell ⟨loc s, 0, none⟩ v').heap.size = w'.heap.size := by simp [World.setCell]
  have := h.refile (w' := w'.setCell ⟨loc s, 0, none⟩ v') hf (v := v') (b := f.b ++ bs) (n := f.lasts)
    ⟨by simpa using heap_setCell_same w' (loc s) 0 _ _ v' hbox, own_at (by rw [List.length_append]; exact hown) fun k hk => Below.heap_setCell _ _ _ _ (fun e => hnew k hk e.symm)⟩
    (fun k hk hkl hkr => (Below.heap_setCell _ _ _ _ hkl).trans (hg.block k (h.low k hk) fun e => hkr k e.symm rfl)) (by rw [hsz]; exact hg.size)
    (fun k hk => by
      rcases hat with e | e
      · exact .inl (e ▸ hk)
      · rw [e] at hk; obtain rfl := Option.some.inj hk; exact .inr (Nat.le_refl _))
  refine ⟨_, _, this, ((Turn.refl S w).grown hg fun k hk => .inl (hmine.2 k hk)).trans (turn_cell w' ⟨loc s, 0, none⟩ v' S hmine.1) fun i hi => .inl hi, fun k hk => hk.elim .inl fun e => ?_⟩
  rcases hat with e2 | e2
  · exact .inl (hmine.2 k (e2 ▸ e))
  · rw [e2] at e; obtain rfl := Option.some.inj e; exact .inr (Nat.le_refl _)
/-- the steps that are done, of a disk that lives -/
theorem doneN_is {n : Nat} (h : FuseIs left D.fuse) : doneN left n = doneP D n := by
  unfold doneN doneP
  cases hu : D.fuse with
  | none => rw [hu] at h; simp only [FuseIs] at h; simp [h]
  | some k => rw [hu] at h; simp only [FuseIs] at h; subst h; rw [if_neg (by omega)]; simp
theorem DiskIn.burnt (h : DiskIn w d m es c left loc row S D) {n : Nat} {w' : World} (hh : HeadAt w' d D.room m (leftN left (doneN left n)) (decide (doneN left n < n))) (ht : Turn (· = d) w w') :
    DiskIn w' d m es c (leftN left (doneP D n)) loc row S ⟨D.files, D.room, burnP D (doneP D n), decide (doneP D n < n)⟩ := by
  have hl := leftN_fit left (doneN left n) n h.fits (Nat.le_refl _)
  have hz := h.fuse
  rw [doneN_is h.fuse] at hh hl
  refine h.rehead hh ht ?_ hl
  have hle : doneP D n ≤ n := doneP_le D n
  unfold burnP leftN
  cases hu : D.fuse with
  | none => rw [hu] at hz; simp only [FuseIs] at hz; simp [FuseIs, hz]
  | some k =>
    rw [hu] at hz; simp only [FuseIs] at hz; subst hz
    have : doneP D n ≤ k := by unfold doneP; rw [hu]; simp only; omega
    simp only [Option.map_some, FuseIs]; rw [if_neg (by omega)]; omega
end
/-- what Append leaves, out of a file that is there -/
theorem append_is {D E : DiskP} {s b : List UInt8} {q : FileP} (h : mayP D s b) (h1 : E.files = D.files ∧ findP D.files s = some q ∨ findP D.files s = none ∧ Rising D.files ∧ E.files = putP D.files ⟨s, [], 0⟩ ∧ q = ⟨s, [], 0⟩) (h2 : E.room = D.room) (h3 : E.fuse = D.fuse) :
    appendP D s b = (⟨putP E.files ⟨s, q.b ++ b.take (doneP E b.length), q.lasts⟩, E.room, burnP E (doneP E b.length), decide (doneP E b.length < b.length)⟩, decide (doneP E b.length = b.length)) := by
  have hdn : doneP E b.length = doneP D b.length := by unfold doneP; rw [h3]
  have hbn : ∀ k, burnP E k = burnP D k := fun k => by unfold burnP; rw [h3]
  rw [appendP, if_pos h, hdn, hbn, h2]
  congr 1
  unfold grownP
  congr 1
  rcases h1 with ⟨h1, hf⟩ | ⟨hf, hr, h1, rfl⟩
  · rw [h1]; simp [fileP, hf]
  · rw [h1]
    simp only [fileP, hf, Option.getD_none]
    refine rising_same (rising_put hr _) (rising_put (rising_put hr _) _) fun t => ?_
    by_cases ht : t = s
    · subst ht
      have e1 := find_put_same D.files ⟨t, [] ++ b.take (doneP D b.length), 0⟩
      have e2 := find_put_same (putP D.files ⟨t, [], 0⟩) ⟨t, [] ++ b.take (doneP D b.length), 0⟩
      simp only at e1 e2
      rw [e1, e2]
    · have e1 := find_put_other D.files ⟨s, [] ++ b.take (doneP D b.length), 0⟩ (t := t) ht
      have e2 := find_put_other (putP D.files ⟨s, [], 0⟩) ⟨s, [] ++ b.take (doneP D b.length), 0⟩ (t := t) ht
      have e3 := find_put_other D.files ⟨s, [], 0⟩ (t := t) ht
      rw [e1, e2, e3]
set_option maxRecDepth 100000 in
set_option maxHeartbeats 8000000 in
theorem append_any {w : World} {d : Nat} {S : Nat → Prop} {D : DiskP} (h : DiskM w d S D) (s : List UInt8) (hs : s.length ≤ 4611686018427387904) (A : Option Addr) (b : List UInt8) (n cb : Nat) (hp : PieceOk w ⟨A, cb, b⟩) (hn : b.length = n) (hap : ∀ k, S k → Apart A b k) :
    Calls Try.prog 11 #[.pointer (some ⟨d, 0, none⟩), .string (strOf s), .slice A n cb] w (Acts w d S (appendP D s b)) := by
  have hlong := hp.long
  simp only at hlong
  have HT := hideIt (takes_any h s hs n (by omega))
  have HN := hideIt h
  have HOS := hideIt (h.1.append s b)
  by_cases hm : mayP D s b
  · have ht := (may_takes D s b).1 hm
    rw [hn] at ht
    rw [ht] at HT
    have hdead := hm.2.2.2
    have hfit := hm.2.1
    have hroom := h.1.room
    have HTL : Hid ((strOf s).size ≤ 140737488355328) := hideIt (by rw [strOf_size]; have := hm.1.2; omega)
    have hbs : n ≤ 1048576 := by omega
    obtain ⟨h0, m, es, c, left, loc, row, h⟩ := h
    have HI0 := hideIt h
    have HP0 := hideIt hp
    have HAP0 := hideIt hap
    have HMAY := hideIt hm
    have HDD := hideIt hdead
    cases hf : findP D.files s with
    | some q =>
      have HFF := hideIt hf
      have hqz := HN.out.size hf
      have HAI := hideIt (append_is (E := D) hm (.inl ⟨rfl, hf⟩) rfl rfl)
      clear h h0 hf hm ht hdead hfit hap hp hlong
      subst hn
      go_enter Try.func11, Try.ntmps11
      go_wp2_with fail
      refine HT.out.mono ?_
      rintro e u ⟨rfl, hb⟩
      have HI := hideIt (HI0.out.keep (w' := u) fun k hk => hb.block k (HI0.out.low k hk))
      have HPB := hideIt (HP0.out.keep hb)
      have HAP := HAP0
      have HUT := hideIt (Turn.of hb S)
      have HSS : Hid (∀ k, S k → S k ∨ w.heap.size ≤ k) := hideIt fun k hk => .inl hk
      have HF := hideIt (find_in HI.out s)
      rw [HFF.out] at HF
      clear hb
      go_wp2_with fail
      refine HF.out.mono ?_
      rintro e w2 ⟨rfl, rfl⟩
      unfold ptrTo
      go_wp2_with fail
      have HDL := HDD
      have hhd := HI.out.head
      rw [HDL.out] at hhd
      refine (done_live d _ m left b.length _ hhd HI.out.fits (by omega)).mono ?_
      rintro e w3 ⟨rfl, hh3, ht3⟩
      have HI3 := hideIt (HI.out.burnt hh3 ht3)
      have hke := doneN_is (n := b.length) HI.out.fuse
      rw [hke]
      have hkl := doneP_le D b.length
      have HT3 := hideIt (HUT.out.trans ht3 fun i hi => HSS.out i (hi ▸ HI.out.mineD))
      have HP3 := hideIt (HPB.out.turn ht3 fun k hk => HAP.out k (hk ▸ HI.out.mineD))
      clear hh3 ht3 hhd hke
      generalize doneP D b.length = k at *
      have hfile3 := HI3.out.file s _ HFF.out
      obtain ⟨A0, c0, hv, hpc⟩ := hfile3.piece (by omega)
      have HL0 : Hid (w3.cell? ⟨loc s, 0, none⟩ = some (.slice A0 q.b.length c0)) := hideIt (by rw [← hv]; exact hfile3.c0)
      have HLT := hideIt hfile3.lt
      have HV := hideIt hv
      have hcb := HP3.out.fits
      simp only at hcb
      have HKL : Hid (k ≤ cb) := hideIt (by omega)
      clear hfile3 hv hpc
      go_upto_region 8 with fail
      refine region_tailX 8 0 [Fact.is (.pointer (some ⟨loc s, 0, none⟩)), Fact.is (.pointer (some ⟨loc s, 0, none⟩)), Fact.is (.pointer (some ⟨loc s, 0, none⟩)), Fact.is (.pointer (some ⟨loc s, 0, none⟩)), Fact.is (.slice A0 (q.b.length) c0), Fact.is (.slice A (b.length) cb), Fact.is (.int .i64 (k : Int)), Fact.is (.slice A k cb)] (by kernel_rfl) (by kernel_rfl) (by kernel_rfl) rfl (by kernel_rfl) (fun _ _ _ _ h => h) (fun a w1 m => ?_) ⟨fun a w1 m => ?_, fun a w1 m => ?_, fun a w1 m => ?_, fun a w1 m => ?_, fun a w1 m => ?_, fun a w1 m => ?_, fun a w1 m => ?_, fun a w1 m => ?_, trivial⟩ ?_
      · exact ⟨.pointer (some ⟨loc s, 0, none⟩), Or.inl ⟨by rfl, fun w => by have e : a.eval (.tmp 7) = .pointer (some ⟨loc s, 0, none⟩) := m.old 7 rfl; simp [execOp, e]⟩, rfl⟩
      · exact ok_move (wanted_none rfl) (.tmp 7) rfl (m.old 7 rfl)
      · exact ok_move (wanted_none rfl) (.tmp 7) rfl (m.old 7 rfl)
      · exact ok_nilCk (wanted_none rfl) (.tmp 35) rfl ⟨loc s, 0, none⟩ (m.has 1 35 rfl rfl)
      · exact ok_fieldF (wanted_none rfl) (.tmp 36) 0 (by decide) rfl (loc s) (m.has 2 36 rfl rfl)
      · exact ok_loadRw (wanted_none rfl) (.tmp 37) rfl ⟨loc s, 0, none⟩ _ (m.has 3 37 rfl rfl) ((m.grew.cell (p := ⟨loc s, 0, none⟩) HLT.out).trans HL0.out)
      · exact ok_move (wanted_none rfl) (.tmp 2) rfl (m.old 2 rfl)
      · exact ok_move (wanted_none rfl) (.tmp 8) rfl (m.old 8 rfl)
      · exact ok_sliceHi (wanted_none rfl) (.tmp 39) (.tmp 40) rfl _ _ _ k (m.has 5 39 rfl rfl) (m.has 6 40 rfl rfl) (HKL.out)
      intro f w9 hg hf
      have e0 : f 0 = .pointer (some ⟨loc s, 0, none⟩) := hf 0 (by decide)
      have e4 : f 4 = .slice A0 (q.b.length) c0 := hf 4 (by decide)
      have e7 : f 7 = .slice A k cb := hf 7 (by decide)
      clear hf
      simp only [List.take, List.drop, putAll, Act.put, List.setIfInBounds_toArray, List.set_cons_succ, List.set_cons_zero]
      rw [e0, e4, e7]
      clear e0 e4 e7
      have hI9 := HI3.out.keep (w' := w9) fun k hk => hg.block k (HI3.out.low k hk)
      have hlk : (b.take k).length = k := by rw [List.length_take]; omega
      obtain ⟨v', w10, happ, hown, hgrow, hat⟩ := run_app_at w9 0 (row s) q.b.length q.b (hI9.file s _ HFF.out).row A cb (b.take k) (piece_take (HP3.out.keep hg) k) (by omega) (Nat.zero_le _)
      obtain ⟨A1, cc1, hv1, _⟩ := own_open hown
      subst hv1
      rw [HV.out, hlk] at happ
      obtain ⟨x0, xf, row', S', hJ, hTJ, hSJ⟩ := hI9.longer HFF.out hown hgrow hat
      rw [HV.out] at x0
      have R := hideIt (show Acts w d S (appendP D s b) (.returned (.bool (decide (k = b.length)))) (w10.setCell ⟨loc s, 0, none⟩ (.slice A1 (q.b.length + (b.take k).length) cc1)) from by
        have hok := HOS.out
        rw [HAI.out] at hok ⊢
        exact ⟨rfl, S', ⟨hok, m, _, _, _, _, row', hJ⟩, (HT3.out.trans (Turn.of hg S) fun i hi => .inl hi).trans hTJ fun i hi => HSS.out i hi, fun i hi => (hSJ i hi).elim (fun h1 => HSS.out i h1) fun h1 => .inr (by have := HT3.out.size; have := hg.size; omega)⟩)
      rw [hlk] at R
      have hq : ((k : Int) == (b.length : Int)) = decide (k = b.length) := by
        by_cases hkn : k = b.length
        · simp [hkn]
        · rw [decide_eq_false hkn]; simp; omega
      clear hI9 hlk hown hgrow hat hJ hTJ hSJ hg hkl
      generalize decide (k = b.length) = rr at *
      refine wpList_appAt rfl (.tmp 38) (.tmp 41) rfl _ _ _ w10 rfl rfl happ ?_
      clear happ
      simp only [Act.put, List.setIfInBounds_toArray, List.set_cons_succ, List.set_cons_zero]
      go_wp2_with fail
      go_ret
      exact R.out
    | none =>
      have HNF := hideIt hf
      clear h h0 hf hm ht hdead hfit hap hp hlong
      subst hn
      go_enter Try.func11, Try.ntmps11
      go_wp2_with fail
      refine HT.out.mono ?_
      rintro e u ⟨rfl, hb⟩
      have HI1 := hideIt (HI0.out.keep (w' := u) fun k hk => hb.block k (HI0.out.low k hk))
      have HF := hideIt (find_in HI1.out s)
      have HB1 := hideIt hb
      rw [HNF.out] at HF
      clear hb
      go_wp2_with fail
      refine HF.out.mono ?_
      rintro e w2 ⟨rfl, rfl⟩
      unfold ptrTo
      go_upto_region 6 with fail
      have hI1 := HI1.out.below (w' := w2.alloc (.cells #[.slice none 0 0, .int .i64 0] 67)) (below_new w2 _)
      have hbx : (w2.alloc (.cells #[.slice none 0 0, .int .i64 0] 67)).heap[w2.heap.size]? = some (.cells #[.slice none 0 0, .int .i64 0] 67 (0, 0)) := heap_alloc_new _ _
      have hB2 : Below w2.heap.size w2 (w2.alloc (.cells #[.slice none 0 0, .int .i64 0] 67)) := below_new w2 _
      have hlow := HI1.out.low
      have hIw := hideIt HI1.out
      generalize hfb : w2.heap.size = fb at *
      have HFB := hideIt hfb
      clear hfb
      generalize w2.alloc (.cells #[.slice none 0 0, .int .i64 0] 67) = w4 at *
      have HI2 := hideIt hI1
      have HBX := hideIt hbx
      have HLW := hideIt hlow
      have HB4 := hideIt (HB1.out.trans (hB2.mono (by rw [← HFB.out]; exact HB1.out.size)))
      have HWF : Hid (w.heap.size ≤ fb) := hideIt (by rw [← HFB.out]; exact HB1.out.size)
      have HLT := hideIt HI2.out.head.lt
      have HC1 := hideIt HI2.out.head.c1
      have HW := hideIt (Below.refl w4.heap.size w4)
      have HFL : Hid (fb < w4.heap.size) := hideIt (Array.getElem?_eq_some_iff.1 hbx).1
      clear hI1 hbx hB2 hlow
      refine region_tail 7 [Fact.is (.pointer (some ⟨d, 0, none⟩)), Fact.is (.pointer (some ⟨d, 0, none⟩)), Fact.is (.pointer (some ⟨d, 1, none⟩)), Fact.is (.map (some m)), Fact.str (s), Fact.str (s), Fact.is (.pointer (some ⟨fb, 0, none⟩))] (by kernel_rfl) (by kernel_rfl) (by kernel_rfl) ⟨fun a w1 m => ?_, fun a w1 m => ?_, fun a w1 m => ?_, fun a w1 m => ?_, fun a w1 m => ?_, fun a w1 m => ?_, fun a w1 m => ?_, trivial⟩ ?_
      · exact ok_move (wanted_none rfl) (.tmp 0) rfl (m.old 0 rfl)
      · exact ok_nilCk (wanted_none rfl) (.tmp 22) rfl ⟨d, 0, none⟩ (m.has 0 22 rfl rfl)
      · exact ok_fieldD (wanted_none rfl) (.tmp 23) 1 (by decide) rfl (d) (m.has 1 23 rfl rfl)
      · exact ok_loadMp (wanted_none rfl) (.tmp 24) rfl ⟨d, 1, none⟩ _ (m.has 2 24 rfl rfl) ((m.grew.cell (p := ⟨d, 1, none⟩) HLT.out).trans HC1.out)
      · exact ok_move (wanted_none rfl) (.tmp 1) rfl (m.old 1 rfl)
      · exact ok_fn (wanted_none rfl) _ _ _ rfl _ (map1 (m.has 4 26 rfl rfl)) go_sclone (clone_any (strOf s) w1 HTL.out) (fun e w' ⟨h1, h2⟩ => ⟨_, h1, rfl, h2⟩)
      · exact ok_move (wanted_none rfl) (.tmp 7) rfl (m.old 7 rfl)
      intro f w9 hg hf
      have e3 : f 3 = .map (some m) := hf 3 (by decide)
      have e5 : f 5 = .string (strOf s) := hf 5 (by decide)
      have e6 : f 6 = .pointer (some ⟨fb, 0, none⟩) := hf 6 (by decide)
      have B9 := hideIt (below_then HW.out hg)
      clear hf
      simp only [List.take, List.drop, putAll, Act.put, List.setIfInBounds_toArray, List.set_cons_succ, List.set_cons_zero]
      rw [e3, e5, e6]
      clear e3 e5 e6
      have hI9 := HI2.out.keep (w' := w9) fun k hk => hg.block k (HI2.out.low k hk)
      have hbx9 : w9.heap[fb]? = some (.cells #[.slice none 0 0, .int .i64 0] 67 (0, 0)) := (hg.block fb HFL.out).trans HBX.out
      obtain ⟨es9, c9, hupd, hm9, u1, u2, u3⟩ := run_updT (P := Try.prog) hI9.map Try.underlying60 Try.underlying9 s (.pointer (some ⟨fb, 0, none⟩))
      have hfm : fb ≠ m := hI9.map_ne hbx9
      have hJ := hI9.putin (w' := w9.putObj m (.map es9 c9)) (s := s) (fb := fb) (v := .slice none 0 0) (b := []) (n := 0) hm9 u1 u2 u3 ⟨by rw [World.putObj_heap_other hfm]; exact hbx9, World.ownsRow_nil _ _ _ _⟩ (fun k hk hkm => World.putObj_heap_other hkm) (by simp [World.putObj])
        (fun t g ht hg2 => by have h1 := HLW.out _ (HI1.out.mineF t g hg2).1; omega) (fun t g k ht hg2 hk e => by cases e)
      have hloc : (fun t => if t = s then fb else loc t) s = fb := by simp
      have HUT := hideIt (((Turn.of HB4.out S).trans (Turn.of hg S) fun i hi => .inl hi).trans (turn_put w9 m (.map es9 c9) S HI1.out.mineM) fun i hi => .inl hi)
      have HSS : Hid (∀ k, (S k ∨ k = fb ∨ (Value.slice none 0 0).ownBlock = some k) → S k ∨ w.heap.size ≤ k) := hideIt fun k hk => by
        rcases hk with hk | rfl | hk
        · exact .inl hk
        · exact .inr HWF.out
        · cases hk
      have hPB : PieceOk (w9.putObj m (.map es9 c9)) ⟨A, cb, b⟩ := HP0.out.turn HUT.out HAP0.out
      have HPB := hideIt hPB
      have HAP : Hid (∀ k, (S k ∨ k = fb ∨ (Value.slice none 0 0).ownBlock = some k) → Apart A b k) := hideIt fun k hk => by
        rcases hk with hk | rfl | hk
        · exact HAP0.out k hk
        · exact HP0.out.apartNew HWF.out
        · cases hk
      have HFF : Hid (findP (putP D.files ⟨s, [], 0⟩) s = some ⟨s, [], 0⟩) := hideIt (find_put_same D.files ⟨s, [], 0⟩)
      have HI := hideIt hJ
      obtain ⟨SS, hSSe⟩ : ∃ SS, SS = (fun k => S k ∨ k = fb ∨ (Value.slice none 0 0).ownBlock = some k) := ⟨_, rfl⟩
      obtain ⟨loc2, hloc2⟩ : ∃ l, l = (fun t => if t = s then fb else loc t) := ⟨_, rfl⟩
      obtain ⟨row2, hrow2⟩ : ∃ l, l = (fun t => if t = s then Value.slice none 0 0 else row t) := ⟨_, rfl⟩
      obtain ⟨E, hE⟩ : ∃ E : DiskP, E = ⟨putP D.files ⟨s, [], 0⟩, D.room, D.fuse, D.dead⟩ := ⟨_, rfl⟩
      obtain ⟨q, hq0⟩ : ∃ q : FileP, q = ⟨s, [], 0⟩ := ⟨_, rfl⟩
      have HAI := hideIt (append_is (E := E) (q := q) HMAY.out (.inr ⟨HNF.out, HI1.out.rise, by rw [hE], hq0⟩) (by rw [hE]) (by rw [hE]))
      have HFF2 : Hid (findP E.files s = some q) := hideIt (by rw [hE, hq0]; exact HFF.out)
      have HI' : Hid (DiskIn (w9.putObj m (.map es9 c9)) d m es9 c9 left loc2 row2 SS E) := hideIt (by rw [hE, hloc2, hrow2, hSSe]; exact HI.out)
      have HSS' : Hid (∀ k, SS k → S k ∨ w.heap.size ≤ k) := hideIt (by rw [hSSe]; exact HSS.out)
      have HAP' : Hid (∀ k, SS k → Apart A b k) := hideIt (by rw [hSSe]; exact HAP.out)
      have hqz : q.b.length ≤ 1048576 := by rw [hq0]; simp
      have HDL : Hid (E.dead = false) := hideIt (by rw [hE]; exact HDD.out)
      have HFQ : Hid (fb = loc2 s) := hideIt (by rw [hloc2]; simp)
      clear HSS HAP HI HFF hI9 hbx9 hm9 u1 u2 u3 hfm hJ hloc hPB hSSe hloc2 hrow2 hE hq0 hg
      go_wp2_with fail
      generalize w9.putObj m (.map es9 c9) = w5 at *
      have hfl := HFQ.out
      clear HFQ
      rw [hfl] at *
      have HFF := HFF2
      have HI := HI'
      have HSS := HSS'
      have HAP := HAP'
      clear HFF2 HI' HSS' HAP' hfl
      have hhd := HI.out.head
      rw [HDL.out] at hhd
      refine (done_live d _ m left b.length _ hhd HI.out.fits (by omega)).mono ?_
      rintro e w3 ⟨rfl, hh3, ht3⟩
      have HI3 := hideIt (HI.out.burnt hh3 ht3)
      have hke := doneN_is (n := b.length) HI.out.fuse
      rw [hke]
      have hkl := doneP_le E b.length
      have HT3 := hideIt (HUT.out.trans ht3 fun i hi => HSS.out i (hi ▸ HI.out.mineD))
      have HP3 := hideIt (HPB.out.turn ht3 fun k hk => HAP.out k (hk ▸ HI.out.mineD))
      clear hh3 ht3 hhd hke
      generalize doneP E b.length = k at *
      have hfile3 := HI3.out.file s _ HFF.out
      obtain ⟨A0, c0, hv, hpc⟩ := hfile3.piece (by omega)
      have HL0 : Hid (w3.cell? ⟨loc2 s, 0, none⟩ = some (.slice A0 q.b.length c0)) := hideIt (by rw [← hv]; exact hfile3.c0)
      have HLT := hideIt hfile3.lt
      have HV := hideIt hv
      have hcb := HP3.out.fits
      simp only at hcb
      have HKL : Hid (k ≤ cb) := hideIt (by omega)
      clear hfile3 hv hpc
      go_upto_region 8 with fail
      refine region_tailX 8 0 [Fact.is (.pointer (some ⟨loc2 s, 0, none⟩)), Fact.is (.pointer (some ⟨loc2 s, 0, none⟩)), Fact.is (.pointer (some ⟨loc2 s, 0, none⟩)), Fact.is (.pointer (some ⟨loc2 s, 0, none⟩)), Fact.is (.slice A0 (q.b.length) c0), Fact.is (.slice A (b.length) cb), Fact.is (.int .i64 (k : Int)), Fact.is (.slice A k cb)] (by kernel_rfl) (by kernel_rfl) (by kernel_rfl) rfl (by kernel_rfl) (fun _ _ _ _ h => h) (fun a w1 m => ?_) ⟨fun a w1 m => ?_, fun a w1 m => ?_, fun a w1 m => ?_, fun a w1 m => ?_, fun a w1 m => ?_, fun a w1 m => ?_, fun a w1 m => ?_, fun a w1 m => ?_, trivial⟩ ?_
      · exact ⟨.pointer (some ⟨loc2 s, 0, none⟩), Or.inl ⟨by rfl, fun w => by have e : a.eval (.tmp 7) = .pointer (some ⟨loc2 s, 0, none⟩) := m.old 7 rfl; simp [execOp, e]⟩, rfl⟩
      · exact ok_move (wanted_none rfl) (.tmp 7) rfl (m.old 7 rfl)
      · exact ok_move (wanted_none rfl) (.tmp 7) rfl (m.old 7 rfl)
      · exact ok_nilCk (wanted_none rfl) (.tmp 35) rfl ⟨loc2 s, 0, none⟩ (m.has 1 35 rfl rfl)
      · exact ok_fieldF (wanted_none rfl) (.tmp 36) 0 (by decide) rfl (loc2 s) (m.has 2 36 rfl rfl)
      · exact ok_loadRw (wanted_none rfl) (.tmp 37) rfl ⟨loc2 s, 0, none⟩ _ (m.has 3 37 rfl rfl) ((m.grew.cell (p := ⟨loc2 s, 0, none⟩) HLT.out).trans HL0.out)
      · exact ok_move (wanted_none rfl) (.tmp 2) rfl (m.old 2 rfl)
      · exact ok_move (wanted_none rfl) (.tmp 8) rfl (m.old 8 rfl)
      · exact ok_sliceHi (wanted_none rfl) (.tmp 39) (.tmp 40) rfl _ _ _ k (m.has 5 39 rfl rfl) (m.has 6 40 rfl rfl) (HKL.out)
      intro f w9 hg hf
      have e0 : f 0 = .pointer (some ⟨loc2 s, 0, none⟩) := hf 0 (by decide)
      have e4 : f 4 = .slice A0 (q.b.length) c0 := hf 4 (by decide)
      have e7 : f 7 = .slice A k cb := hf 7 (by decide)
      clear hf
      simp only [List.take, List.drop, putAll, Act.put, List.setIfInBounds_toArray, List.set_cons_succ, List.set_cons_zero]
      rw [e0, e4, e7]
      clear e0 e4 e7
      have hI9 := HI3.out.keep (w' := w9) fun k hk => hg.block k (HI3.out.low k hk)
      have hlk : (b.take k).length = k := by rw [List.length_take]; omega
      obtain ⟨v', w10, happ, hown, hgrow, hat⟩ := run_app_at w9 0 (row2 s) q.b.length q.b (hI9.file s _ HFF.out).row A cb (b.take k) (piece_take (HP3.out.keep hg) k) (by omega) (Nat.zero_le _)
      obtain ⟨A1, cc1, hv1, _⟩ := own_open hown
      subst hv1
      rw [HV.out, hlk] at happ
      obtain ⟨x0, xf, row', S', hJ, hTJ, hSJ⟩ := hI9.longer HFF.out hown hgrow hat
      rw [HV.out] at x0
      have R := hideIt (show Acts w d S (appendP D s b) (.returned (.bool (decide (k = b.length)))) (w10.setCell ⟨loc2 s, 0, none⟩ (.slice A1 (q.b.length + (b.take k).length) cc1)) from by
        have hok := HOS.out
        rw [HAI.out] at hok ⊢
        exact ⟨rfl, S', ⟨hok, m, _, _, _, _, row', hJ⟩, (HT3.out.trans (Turn.of hg S) fun i hi => .inl hi).trans hTJ fun i hi => HSS.out i hi, fun i hi => (hSJ i hi).elim (fun h1 => HSS.out i h1) fun h1 => .inr (by have := HT3.out.size; have := hg.size; omega)⟩)
      rw [hlk] at R
      have hq : ((k : Int) == (b.length : Int)) = decide (k = b.length) := by
        by_cases hkn : k = b.length
        · simp [hkn]
        · rw [decide_eq_false hkn]; simp; omega
      clear hI9 hlk hown hgrow hat hJ hTJ hSJ hg hkl
      generalize decide (k = b.length) = rr at *
      refine wpList_appAt rfl (.tmp 38) (.tmp 41) rfl _ _ _ w10 rfl rfl happ ?_
      clear happ
      simp only [Act.put, List.setIfInBounds_toArray, List.set_cons_succ, List.set_cons_zero]
      go_wp2_with fail
      go_ret
      exact R.out
  · have e : appendP D s b = (D, false) := by rw [appendP, if_neg hm]
    have ht : takesP D s n = false := by
      rw [← hn]
      cases hh : takesP D s b.length with
      | false => rfl
      | true => exact absurd ((may_takes D s b).2 hh) hm
    rw [ht] at HT
    rw [e]
    clear h hm e ht hap hp HOS
    go_enter Try.func11, Try.ntmps11
    go_wp2_with fail
    refine HT.out.mono ?_
    rintro e w2 ⟨rfl, hb⟩
    have R : Hid (Acts w d S (D, false) (.returned (.bool false)) w2) := hideIt ⟨rfl, S, HN.out.below hb, Turn.of hb S, fun k hk => .inl hk⟩
    clear hb
    go_wp2_with fail
    go_ret
    exact R.out
end Go.Proofs.Ythpbhfepiekchaa
