/- Contract of Rename. -/
import Derived.Test.YthpbhfepiekchaaDiskActs
import Derived.Test.YthpbhfepiekchaaDiskFacts
namespace Go.Proofs.Ythpbhfepiekchaa
open Go.ChangeShapes Go.WideShapes Go.ChangeAt Go.RowKit
set_option linter.unusedVariables false
set_option linter.unusedSimpArgs false

theorem DiskIn.renamed {w w' : World} {d m c : Nat} {es : Array MapEntry} {left : Int} {loc : List UInt8 → Nat} {row : List UInt8 → Value} {S : Nat → Prop} {D : DiskP} {s t : List UInt8} {f : FileP}
    (h : DiskIn w d m es c left loc row S D) (hf : findP D.files s = some f) {es1 : Array MapEntry} {c1 : Nat} {w1 : World} (h1 : DiskIn w1 d m es1 c1 left loc row S ⟨withoutP D.files s, D.room, D.fuse, D.dead⟩) (hk1 : ∀ k, S k → k ≠ m → w1.heap[k]? = w.heap[k]?)
    {es' : Array MapEntry} {c' : Nat} (hm : MapT w' m es' c') (v1 : valM es' t = some (.pointer (some ⟨loc s, 0, none⟩))) (v2 : ∀ u, u ≠ t → valM es' u = valM es1 u) (v3 : es'.size = es1.size + (if (valM es1 t).isSome = true then 0 else 1)) (hold : ∀ k, S k → k ≠ m → w'.heap[k]? = w1.heap[k]?) (hsz : w1.heap.size ≤ w'.heap.size) :
    ∃ loc' row', DiskIn w' d m es' c' left loc' row' S ⟨putP (withoutP D.files s) ⟨t, f.b, f.lasts⟩, D.room, D.fuse, D.dead⟩ := by
  have hfile := h.file s f hf
  have hmine := h.mineF s f hf
  have hne := h.loc_ne hf
  have hoth : ∀ u g, findP (withoutP D.files s) u = some g → u ≠ s ∧ findP D.files u = some g := fun u g hg => by
    by_cases hus : u = s
    · subst hus; rw [find_without_same] at hg; cases hg
    · rw [find_without_other _ hus] at hg; exact ⟨hus, hg⟩
  have := h1.putin (s := t) (fb := loc s) (v := row s) (b := f.b) (n := f.lasts) hm v1 v2 v3 (hfile.keep ((hold _ hmine.1 hne.2.1).trans (hk1 _ hmine.1 hne.2.1)) fun k hk => (hold _ (hmine.2 k hk) (hne.2.2 k hk).2).trans (hk1 _ (hmine.2 k hk) (hne.2.2 k hk).2)) hold hsz
    (fun u g hu hg e => (hoth u g hg).1 (h.inj u s g f (hoth u g hg).2 hf e)) (fun u g k hu hg hk e => (hoth u g hg).1 (h.rinj u s g f k (hoth u g hg).2 hf hk e))
  exact ⟨_, _, this.sameS (fun _ => rfl) fun k => ⟨fun hk => .inl hk, fun hk => hk.elim id fun hr => hr.elim (fun e => e ▸ hmine.1) fun e => hmine.2 k e⟩⟩
set_option maxRecDepth 100000 in
set_option maxHeartbeats 4000000 in
theorem rename_any {w : World} {d : Nat} {S : Nat → Prop} {D : DiskP} (h : DiskM w d S D) (s t : List UInt8) (ht : t.length ≤ 4611686018427387904) : Calls Try.prog 27 #[.pointer (some ⟨d, 0, none⟩), .string (strOf s), .string (strOf t)] w (Acts w d S (renameP D s t)) := by
  have HN := hideIt (acts_none h)
  have HOS := hideIt (h.1.rename s t)
  have HM := hideIt (fun w' => mayBe_any t w' ht)
  obtain ⟨h0, m, es, c, left, loc, row, h⟩ := h
  have HF := hideIt (find_in h s)
  have HD := hideIt (done1 h)
  cases hf : findP D.files s with
  | none =>
    have e : renameP D s t = (D, false) := by simp [renameP, hf]
    rw [e] at HOS ⊢
    rw [hf] at HF
    clear h h0 hf e
    go_enter Try.func27, Try.ntmps27
    go_wp2_with fail
    refine HF.out.mono ?_
    rintro e w2 ⟨rfl, rfl⟩
    unfold ptrTo
    go_wp2_with fail
    go_ret
    exact HN.out
  | some q =>
    have HMD := hideIt h.mineD
    have HMM := hideIt h.mineM
    have HHF := hideIt hf
    rw [hf] at HF
    by_cases hnm : nameP t
    · rw [decide_eq_true hnm] at HM
      cases hc : canP D with
      | false =>
        have e : renameP D s t = (diesP D, false) := by simp [renameP, hf, hnm, hc]
        rw [e] at HOS ⊢
        clear h h0 hf e hnm
        go_enter Try.func27, Try.ntmps27
        go_wp2_with fail
        refine HF.out.mono ?_
        rintro e w2 ⟨rfl, rfl⟩
        unfold ptrTo
        go_wp2_with fail
        refine (HM.out _).mono ?_
        rintro e w3 ⟨rfl, rfl⟩
        go_wp2_with fail
        refine HD.out.mono ?_
        rintro e w3 ⟨rfl, left', hI, ht2⟩
        rw [hc] at hI ⊢
        have R := hideIt (show Acts _ d S (diesP D, false) (.returned (.bool false)) w3 from ⟨rfl, S, ⟨HOS.out, m, es, c, left', loc, row, by simpa using hI⟩, ht2.mono fun i hi => hi ▸ HMD.out, fun k hk => .inl hk⟩)
        clear hI ht2 hc
        go_wp2_with fail
        go_ret
        exact R.out
      | true =>
        have e : renameP D s t = (doesP D (putP (withoutP D.files s) ⟨t, q.b, q.lasts⟩), true) := by simp [renameP, hf, hnm, hc]
        rw [e] at HOS ⊢
        have HTL : Hid ((strOf t).size ≤ 140737488355328) := hideIt (by rw [strOf_size]; have := hnm.2; omega)
        clear h h0 hf e hnm
        go_enter Try.func27, Try.ntmps27
        go_wp2_with fail
        refine HF.out.mono ?_
        rintro e w2 ⟨rfl, rfl⟩
        unfold ptrTo
        go_wp2_with fail
        refine (HM.out _).mono ?_
        rintro e w3 ⟨rfl, rfl⟩
        go_wp2_with fail
        refine HD.out.mono ?_
        rintro e w3 ⟨rfl, left', hI, ht2⟩
        rw [hc, if_pos rfl] at hI
        rw [hc, if_pos rfl]
        obtain ⟨es', hdel, hm, v1, v2, v3⟩ := run_delT (P := Try.prog) hI.map Try.underlying60 Try.underlying9 s 0 #[60, 9] rfl
        have hdl : ∀ ty, (Builtin.delete_ #[60, 9] ty #[.map (some m), .string (strOf s)]).run Try.prog w3 = .ok (.tuple #[]) (w3.putObj m (.map es' c)) := fun ty => hdel
        have c1 := hI.head.c1
        have HI := hideIt hI
        have HI2 := hideIt (hI.takeout hm v1 v2 v3 (fun k hk hkm => World.putObj_heap_other hkm) (by simp [World.putObj]))
        have HT2 := hideIt ((ht2.mono (S' := S) fun i hi => hi ▸ HMD.out).trans (turn_put w3 m (.map es' c) S HMM.out) fun i hi => .inl hi)
        have HK2 : Hid (∀ k, S k → k ≠ m → (w3.putObj m (.map es' c)).heap[k]? = w3.heap[k]?) := hideIt fun k hk hkm => World.putObj_heap_other hkm
        clear hI ht2 hc hdel hm v1 v2 v3
        go_upto_region 5 with fail
        generalize w3.putObj m (.map es' c) = w4 at *
        clear hdl c1
        have HLT := hideIt HI2.out.head.lt
        have HC1 := hideIt HI2.out.head.c1
        have HW := hideIt (Below.refl w4.heap.size w4)
        refine region_tail 7 [Fact.is (.pointer (some ⟨d, 0, none⟩)), Fact.is (.pointer (some ⟨d, 0, none⟩)), Fact.is (.pointer (some ⟨d, 1, none⟩)), Fact.is (.map (some m)), Fact.str (t), Fact.str (t), Fact.is (.pointer (some ⟨loc s, 0, none⟩))] (by kernel_rfl) (by kernel_rfl) (by kernel_rfl) ⟨fun a w1 m => ?_, fun a w1 m => ?_, fun a w1 m => ?_, fun a w1 m => ?_, fun a w1 m => ?_, fun a w1 m => ?_, fun a w1 m => ?_, trivial⟩ ?_
        · exact ok_move (wanted_none rfl) (.tmp 0) rfl (m.old 0 rfl)
        · exact ok_nilCk (wanted_none rfl) (.tmp 29) rfl ⟨d, 0, none⟩ (m.has 0 29 rfl rfl)
        · exact ok_fieldD (wanted_none rfl) (.tmp 30) 1 (by decide) rfl (d) (m.has 1 30 rfl rfl)
        · exact ok_loadMp (wanted_none rfl) (.tmp 31) rfl ⟨d, 1, none⟩ _ (m.has 2 31 rfl rfl) ((m.grew.cell (p := ⟨d, 1, none⟩) HLT.out).trans HC1.out)
        · exact ok_move (wanted_none rfl) (.tmp 2) rfl (m.old 2 rfl)
        · exact ok_fn (wanted_none rfl) _ _ _ rfl _ (map1 (m.has 4 33 rfl rfl)) go_sclone (clone_any (strOf t) w1 HTL.out) (fun e w' ⟨h1, h2⟩ => ⟨_, h1, rfl, h2⟩)
        · exact ok_move (wanted_none rfl) (.tmp 7) rfl (m.old 7 rfl)
        intro f w9 hg hf
        have e3 : f 3 = .map (some m) := hf 3 (by decide)
        have e5 : f 5 = .string (strOf t) := hf 5 (by decide)
        have e6 : f 6 = .pointer (some ⟨loc s, 0, none⟩) := hf 6 (by decide)
        have B9 := hideIt (below_then HW.out hg)
        clear hf
        simp only [List.take, List.drop, putAll, Act.put, List.setIfInBounds_toArray, List.set_cons_succ, List.set_cons_zero]
        rw [e3, e5, e6]
        clear e3 e5 e6
        have hI9 := HI2.out.keep (w' := w9) fun k hk => hg.block k (HI2.out.low k hk)
        obtain ⟨es9, c9, hupd, hm9, u1, u2, u3⟩ := run_updT (P := Try.prog) hI9.map Try.underlying60 Try.underlying9 t (.pointer (some ⟨loc s, 0, none⟩))
        obtain ⟨loc', row', hJ⟩ := HI.out.renamed HHF.out hI9 (fun k hk hkm => (hg.block k (HI2.out.low k hk)).trans (HK2.out k hk hkm)) hm9 u1 u2 u3 (fun k hk hkm => World.putObj_heap_other hkm) (by simp [World.putObj])
        have R := hideIt (show Acts _ d S (doesP D (putP (withoutP D.files s) ⟨t, q.b, q.lasts⟩), true) (.returned (.bool true)) (w9.putObj m (.map es9 c9)) from
          ⟨rfl, S, ⟨HOS.out, m, es9, c9, left', loc', row', hJ⟩, (HT2.out.trans (Turn.of hg S) fun i hi => .inl hi).trans (turn_put w9 m _ S HMM.out) fun i hi => .inl hi, fun k hk => .inl hk⟩)
        clear hI9 hm9 u1 u2 u3 hJ hg
        go_wp2_with fail
        go_ret
        exact R.out
    · have e : renameP D s t = (D, false) := by simp [renameP, hf, hnm]
      rw [decide_eq_false hnm] at HM
      rw [e] at HOS ⊢
      clear h h0 hf e hnm
      go_enter Try.func27, Try.ntmps27
      go_wp2_with fail
      refine HF.out.mono ?_
      rintro e w2 ⟨rfl, rfl⟩
      unfold ptrTo
      go_wp2_with fail
      refine (HM.out _).mono ?_
      rintro e w3 ⟨rfl, rfl⟩
      go_wp2_with fail
      go_ret
      exact HN.out
end Go.Proofs.Ythpbhfepiekchaa
