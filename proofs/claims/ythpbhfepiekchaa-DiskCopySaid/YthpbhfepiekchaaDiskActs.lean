/- Contracts of one step, of Sync, of Drop. -/
import Derived.Test.YthpbhfepiekchaaDiskFind
namespace Go.Proofs.Ythpbhfepiekchaa
open Go.ChangeShapes Go.WideShapes Go.ChangeAt Go.RowKit
set_option linter.unusedVariables false
set_option linter.unusedSimpArgs false

/-- what a call that changes a disk leaves: its answer, the disk, and nothing else -/
def Acts (w : World) (d : Nat) (S : Nat → Prop) (R : DiskP × Bool) (e : Ending) (w' : World) : Prop :=
  e = .returned (.bool R.2) ∧ ∃ S', DiskM w' d S' R.1 ∧ Turn S w w' ∧ ∀ k, S' k → S k ∨ w.heap.size ≤ k
theorem canP_left {D : DiskP} {left : Int} (h : FuseIs left D.fuse) : canP D = (!D.dead && decide (left ≠ 0)) := by
  unfold canP
  congr 1
  cases hf : D.fuse with
  | none => rw [hf] at h; simp only [FuseIs] at h; simp; omega
  | some k =>
    rw [hf] at h
    simp only [FuseIs] at h
    subst h
    simp only [ne_eq, Option.some.injEq, decide_not]
    congr 1
    exact decide_eq_decide.2 (by omega)
section
variable {w : World} {d m c : Nat} {es : Array MapEntry} {left : Int} {loc : List UInt8 → Nat} {row : List UInt8 → Value} {S : Nat → Prop} {D : DiskP}
/-- one step -/
def Step1 (w : World) (d m : Nat) (es : Array MapEntry) (c : Nat) (loc : List UInt8 → Nat) (row : List UInt8 → Value) (S : Nat → Prop) (D : DiskP) (e : Ending) (w' : World) : Prop :=
  e = .returned (.int .i64 (if canP D = true then 1 else 0)) ∧ ∃ left', DiskIn w' d m es c left' loc row S (if canP D = true then doesP D D.files else diesP D) ∧ Turn (· = d) w w'
theorem done1 (h : DiskIn w d m es c left loc row S D) : Calls Try.prog 32 #[.int .i64 1, .func (.func 33) #[.pointer (some ⟨d, 0, none⟩)] #[]] w (Step1 w d m es c loc row S D) := by
  have hcan := canP_left h.fuse
  have hf := h.fits
  cases hd : D.dead with
  | true =>
    have hh := h.head
    rw [hd] at hh
    refine (done_dead d D.room m left w hh hf).mono ?_
    rintro e w' ⟨rfl, h1, h2⟩
    rw [hd] at hcan
    have hc : canP D = false := by rw [hcan]; rfl
    refine ⟨by simp [hc], left, ?_, h2⟩
    rw [if_neg (by simp [hc])]
    exact h.rehead h1 h2 h.fuse hf
  | false =>
    have hh := h.head
    rw [hd] at hh
    refine (done_live d D.room m left 1 w hh hf (by omega)).mono ?_
    rintro e w' ⟨rfl, h1, h2⟩
    rw [hd] at hcan
    by_cases h0 : left = 0
    · have hc : canP D = false := by rw [hcan, h0]; rfl
      subst h0
      have e0 : doneN 0 1 = 0 := by decide
      rw [e0] at h1 ⊢
      refine ⟨by simp [hc], 0, ?_, h2⟩
      rw [if_neg (by simp [hc])]
      have hz := h.fuse
      exact h.rehead (by simpa [leftN] using h1) h2 hz hf
    · have hc : canP D = true := by rw [hcan]; simp [h0]
      have e0 : doneN left 1 = 1 := by unfold doneN; split <;> omega
      rw [e0] at h1 ⊢
      refine ⟨by simp [hc], leftN left 1, ?_, h2⟩
      rw [if_pos hc]
      refine h.rehead (by simpa using h1) h2 ?_ (by unfold leftN; split <;> omega)
      have hz := h.fuse
      unfold burnP leftN
      cases hu : D.fuse with
      | none => rw [hu] at hz; simp only [FuseIs] at hz; simp [FuseIs, hz]
      | some k => rw [hu] at hz; simp only [FuseIs] at hz; subst hz; simp only [Option.map_some, FuseIs]; rw [if_neg (by omega)]; omega
end
theorem turn_put (w : World) (m : Nat) (o : Obj) (S : Nat → Prop) (hp : S m) : Turn S w (w.putObj m o) :=
  ⟨rfl, rfl, rfl, by simp [World.putObj], fun k hk hn => World.putObj_heap_other fun e => hn (e ▸ hp)⟩
theorem DiskIn.sameS {w : World} {d m c : Nat} {es : Array MapEntry} {left : Int} {loc : List UInt8 → Nat} {row row' : List UInt8 → Value} {S S' : Nat → Prop} {D : DiskP} (h : DiskIn w d m es c left loc row S D) (h1 : ∀ t, row' t = row t) (h2 : ∀ k, S' k ↔ S k) : DiskIn w d m es c left loc row' S' D := by
  obtain rfl : row' = row := funext h1
  obtain rfl : S' = S := funext fun k => propext (h2 k)
  exact h
theorem DiskIn.setLasts {w : World} {d m c : Nat} {es : Array MapEntry} {left : Int} {loc : List UInt8 → Nat} {row : List UInt8 → Value} {S : Nat → Prop} {D : DiskP} (h : DiskIn w d m es c left loc row S D) {s : List UInt8} {f : FileP} (hf : findP D.files s = some f) (n : Nat) :
    DiskIn (w.setCell ⟨loc s, 1, none⟩ (.int .i64 (n : Int))) d m es c left loc row S ⟨putP D.files ⟨s, f.b, n⟩, D.room, D.fuse, D.dead⟩ := by
  have hfile := h.file s f hf
  have hne : ∀ k, (row s).ownBlock = some k → k ≠ loc s := fun k hk e => h.loc_row hf hf hk e.symm
  have := h.refile (w' := w.setCell ⟨loc s, 1, none⟩ (.int .i64 (n : Int))) hf (v := row s) (b := f.b) (n := n) ⟨by simpa using heap_setCell_same w (loc s) 1 _ _ (.int .i64 (n : Int)) hfile.box, own_at hfile.row fun k hk => Below.heap_setCell _ _ _ _ (hne k hk)⟩
    (fun k _ hk _ => Below.heap_setCell _ _ _ _ hk) (by simp [World.setCell]) (fun k hk => .inl hk)
  refine this.sameS (fun t => ?_) fun k => ⟨fun hk => .inl hk, fun hk => hk.elim id fun hr => (h.mineF s f hf).2 k hr⟩
  by_cases ht : t = s
  · simp [ht]
  · simp [ht]
theorem acts_none {w : World} {d : Nat} {S : Nat → Prop} {D : DiskP} (h : DiskM w d S D) : Acts w d S (D, false) (.returned (.bool false)) w := ⟨rfl, S, h, Turn.refl _ _, fun k hk => .inl hk⟩
theorem run_len_row (A : Option Addr) (n c : Nat) (ty : TypeId) (w : World) : (Builtin.len_ #[22] ty #[.slice A n c]).run Try.prog w = .ok (.int .i64 (n : Int)) w := by simp [Builtin.len_, run_underlying Try.underlying22]; rfl
set_option maxHeartbeats 2000000 in
theorem sync_any {w : World} {d : Nat} {S : Nat → Prop} {D : DiskP} (h : DiskM w d S D) (s : List UInt8) : Calls Try.prog 12 #[.pointer (some ⟨d, 0, none⟩), .string (strOf s)] w (Acts w d S (syncP D s)) := by
  have hsz := fun f => h.size (s := s) (f := f)
  have HN := hideIt (acts_none h)
  have HOS := hideIt (h.1.sync s)
  obtain ⟨h0, m, es, c, left, loc, row, h⟩ := h
  have HF := hideIt (find_in h s)
  have HD := hideIt (done1 h)
  cases hf : findP D.files s with
  | none =>
    have e : syncP D s = (D, false) := by simp [syncP, hf]
    rw [e] at HOS ⊢
    rw [hf] at HF
    clear h h0 hf hsz e
    go_enter Try.func12, Try.ntmps12
    go_wp2_with fail
    refine HF.out.mono ?_
    rintro e w2 ⟨rfl, rfl⟩
    unfold ptrTo
    go_wp2_with fail
    go_ret
    exact HN.out
  | some f =>
    have hs := hsz f hf
    have HMD := hideIt h.mineD
    have HMF := hideIt (h.mineF s f hf)
    have HHF := hideIt hf
    rw [hf] at HF
    cases hc : canP D with
    | false =>
      have e : syncP D s = (diesP D, false) := by simp [syncP, hf, hc]
      rw [e] at HOS ⊢
      clear h h0 hf hsz e
      go_enter Try.func12, Try.ntmps12
      go_wp2_with fail
      refine HF.out.mono ?_
      rintro e w2 ⟨rfl, rfl⟩
      unfold ptrTo
      go_wp2_with fail
      refine HD.out.mono ?_
      rintro e w3 ⟨rfl, left', hI, ht⟩
      rw [hc] at hI ⊢
      have R : Hid (Acts w2 d S (diesP D, false) (.returned (.bool false)) w3) := hideIt ⟨rfl, S, ⟨HOS.out, m, es, c, left', loc, row, by simpa using hI⟩, ht.mono fun i hi => hi ▸ HMD.out, fun k hk => .inl hk⟩
      clear hI ht hc
      go_wp2_with fail
      go_ret
      exact R.out
    | true =>
      have e : syncP D s = (doesP D (putP D.files ⟨s, f.b, f.b.length⟩), true) := by simp [syncP, hf, hc]
      rw [e] at HOS ⊢
      clear h h0 hf hsz e
      go_enter Try.func12, Try.ntmps12
      go_wp2_with fail
      refine HF.out.mono ?_
      rintro e w2 ⟨rfl, rfl⟩
      unfold ptrTo
      go_wp2_with fail
      refine HD.out.mono ?_
      rintro e w3 ⟨rfl, left', hI, ht⟩
      rw [hc, if_pos rfl] at hI
      rw [hc, if_pos rfl]
      have hfile := hI.file s f HHF.out
      obtain ⟨A, c', hv, hp⟩ := hfile.piece (by omega)
      have c0 := hfile.c0
      have c1 := hfile.c1
      have fz := hfile.fz 1
      rw [hv] at c0
      have hI2 := hI.setLasts HHF.out f.b.length
      have R : Hid (Acts w2 d S (doesP D (putP D.files ⟨s, f.b, f.b.length⟩), true) (.returned (.bool true)) (w3.setCell ⟨loc s, 1, none⟩ (.int .i64 (f.b.length : Int)))) := hideIt
        ⟨rfl, S, ⟨HOS.out, m, es, c, left', loc, row, hI2⟩, (ht.mono fun i hi => hi ▸ HMD.out).trans (turn_cell w3 ⟨loc s, 1, none⟩ _ S HMF.out.1) fun i hi => .inl hi, fun k hk => .inl hk⟩
      clear hI ht hc hI2 hfile hv hp hs
      generalize f.b.length = n at *
      go_wp2_with fail
      go_ret
      exact R.out
set_option maxHeartbeats 2000000 in
theorem drop_any {w : World} {d : Nat} {S : Nat → Prop} {D : DiskP} (h : DiskM w d S D) (s : List UInt8) : Calls Try.prog 25 #[.pointer (some ⟨d, 0, none⟩), .string (strOf s)] w (Acts w d S (dropP D s)) := by
  have HN := hideIt (acts_none h)
  have HOS := hideIt (h.1.drop s)
  obtain ⟨h0, m, es, c, left, loc, row, h⟩ := h
  have HF := hideIt (find_in h s)
  have HD := hideIt (done1 h)
  cases hf : findP D.files s with
  | none =>
    have e : dropP D s = (D, false) := by simp [dropP, hf]
    rw [e] at HOS ⊢
    rw [hf] at HF
    clear h h0 hf e
    go_enter Try.func25, Try.ntmps25
    go_wp2_with fail
    refine HF.out.mono ?_
    rintro e w2 ⟨rfl, rfl⟩
    unfold ptrTo
    go_wp2_with fail
    go_ret
    exact HN.out
  | some f =>
    have HMD := hideIt h.mineD
    have HMM := hideIt h.mineM
    have HHF := hideIt hf
    rw [hf] at HF
    cases hc : canP D with
    | false =>
      have e : dropP D s = (diesP D, false) := by simp [dropP, hf, hc]
      rw [e] at HOS ⊢
      clear h h0 hf e
      go_enter Try.func25, Try.ntmps25
      go_wp2_with fail
      refine HF.out.mono ?_
      rintro e w2 ⟨rfl, rfl⟩
      unfold ptrTo
      go_wp2_with fail
      refine HD.out.mono ?_
      rintro e w3 ⟨rfl, left', hI, ht⟩
      rw [hc] at hI ⊢
      have R : Hid (Acts w2 d S (diesP D, false) (.returned (.bool false)) w3) := hideIt ⟨rfl, S, ⟨HOS.out, m, es, c, left', loc, row, by simpa using hI⟩, ht.mono fun i hi => hi ▸ HMD.out, fun k hk => .inl hk⟩
      clear hI ht hc
      go_wp2_with fail
      go_ret
      exact R.out
    | true =>
      have e : dropP D s = (doesP D (withoutP D.files s), true) := by simp [dropP, hf, hc]
      rw [e] at HOS ⊢
      clear h h0 hf e
      go_enter Try.func25, Try.ntmps25
      go_wp2_with fail
      refine HF.out.mono ?_
      rintro e w2 ⟨rfl, rfl⟩
      unfold ptrTo
      go_wp2_with fail
      refine HD.out.mono ?_
      rintro e w3 ⟨rfl, left', hI, ht⟩
      rw [hc, if_pos rfl] at hI
      rw [hc, if_pos rfl]
      obtain ⟨es', hdel, hm, v1, v2, v3⟩ := run_delT (P := Try.prog) hI.map Try.underlying60 Try.underlying9 s 0 #[60, 9] rfl
      have hdl : ∀ ty, (Builtin.delete_ #[60, 9] ty #[.map (some m), .string (strOf s)]).run Try.prog w3 = .ok (.tuple #[]) (w3.putObj m (.map es' c)) := fun ty => hdel
      have c1 := hI.head.c1
      have hI2 := hI.takeout hm v1 v2 v3 (fun k hk hkm => World.putObj_heap_other hkm) (by simp [World.putObj])
      have R : Hid (Acts w2 d S (doesP D (withoutP D.files s), true) (.returned (.bool true)) (w3.putObj m (.map es' c))) := hideIt
        ⟨rfl, S, ⟨HOS.out, m, es', c, left', loc, row, hI2⟩, (ht.mono fun i hi => hi ▸ HMD.out).trans (turn_put w3 m _ S HMM.out) fun i hi => .inl hi, fun k hk => .inl hk⟩
      clear hI ht hc hI2 hdel hm v1 v2 v3
      go_wp2_with fail
      go_ret
      exact R.out
end Go.Proofs.Ythpbhfepiekchaa
