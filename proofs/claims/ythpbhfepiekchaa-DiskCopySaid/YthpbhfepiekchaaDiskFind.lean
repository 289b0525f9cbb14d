/- Contracts of find, Dead, Fuse, Read, Lasting; and of nil disks. -/
import Derived.Test.YthpbhfepiekchaaDiskStep
import Derived.Lib.SliceRun
namespace Go.Proofs.Ythpbhfepiekchaa
open Go.ChangeShapes Go.WideShapes Go.ChangeAt Go.RowKit
set_option linter.unusedVariables false
set_option linter.unusedSimpArgs false

section
variable {w : World} {d m c : Nat} {es : Array MapEntry} {left : Int} {loc : List UInt8 → Nat} {row : List UInt8 → Value} {S : Nat → Prop} {D : DiskP}
theorem DiskIn.hit (h : DiskIn w d m es c left loc row S D) {s : List UInt8} {f : FileP} (hf : findP D.files s = some f) : (Instr.lookup 60 (.map (some m)) (.string (strOf s)) false).run Try.prog w = .ok (.pointer (some ⟨loc s, 0, none⟩)) w := by
  have := run_lookT h.map Try.underlying60 Try.underlying9 s _ (by rw [h.look s, hf]; rfl) false
  simpa using this
theorem DiskIn.miss (h : DiskIn w d m es c left loc row S D) {s : List UInt8} (hf : findP D.files s = none) : (Instr.lookup 60 (.map (some m)) (.string (strOf s)) false).run Try.prog w = .ok (.pointer none) w := by
  have := run_missT h.map Try.underlying60 Try.underlying9 s (.pointer none) (by kernel_rfl) (by rw [h.look s, hf]; rfl) false
  simpa using this
def ptrTo (loc : List UInt8 → Nat) (s : List UInt8) : Option FileP → Value
  | none => .pointer none
  | some _ => .pointer (some ⟨loc s, 0, none⟩)
set_option maxHeartbeats 1000000 in
theorem find_in (h : DiskIn w d m es c left loc row S D) (s : List UInt8) : Calls Try.prog 30 #[.pointer (some ⟨d, 0, none⟩), .string (strOf s)] w fun e w' => e = .returned (ptrTo loc s (findP D.files s)) ∧ w' = w := by
  have c1 := h.head.c1
  cases hf : findP D.files s with
  | none =>
    have hl := h.miss hf
    clear h hf
    go_enter Try.func30, Try.ntmps30
    go_wp2
    go_ret
    exact ⟨rfl, rfl⟩
  | some f =>
    have hl := h.hit hf
    clear h hf
    go_enter Try.func30, Try.ntmps30
    go_wp2
    go_ret
    exact ⟨rfl, rfl⟩
end
theorem find_nil (s : ByteArray) (w : World) : Calls Try.prog 30 #[.pointer none, .string s] w fun e w' => e = .returned (.pointer none) ∧ w' = w := by
  go_enter Try.func30, Try.ntmps30
  go_wp2
  go_ret
  exact ⟨rfl, rfl⟩
theorem dead_any {w : World} {d : Nat} {S : Nat → Prop} {D : DiskP} (h : DiskM w d S D) : Calls Try.prog 17 #[.pointer (some ⟨d, 0, none⟩)] w fun e w' => e = .returned (.bool D.dead) ∧ w' = w := by
  obtain ⟨_, m, es, c, left, loc, row, h⟩ := h
  have c3 := h.head.c3
  clear h
  go_enter Try.func17, Try.ntmps17
  go_wp2
  go_ret
  exact ⟨rfl, rfl⟩
theorem dead_nil (w : World) : Calls Try.prog 17 #[.pointer none] w fun e w' => e = .returned (.bool false) ∧ w' = w := by
  go_enter Try.func17, Try.ntmps17
  go_wp2
  go_ret
  exact ⟨rfl, rfl⟩
theorem fuse_any {w : World} {d : Nat} {S : Nat → Prop} {D : DiskP} (h : DiskM w d S D) (n : Int) (hn : -9223372036854775808 ≤ n ∧ n ≤ 9223372036854775807) : Calls Try.prog 13 #[.pointer (some ⟨d, 0, none⟩), .int .i64 n] w fun e w' => e = .returned (.tuple #[]) ∧ DiskM w' d S (fuseP D n) ∧ Turn S w w' := by
  obtain ⟨h0, m, es, c, left, loc, row, h⟩ := h
  have c3 := h.head.c3
  have c2 := h.head.c2
  have f2 := h.head.fz 2
  cases hd : D.dead with
  | true =>
    have R : Hid (DiskM w d S (fuseP D n)) := hideIt (by
      have : fuseP D n = D := by simp [fuseP, hd]
      rw [this]; exact ⟨h0, m, es, c, left, loc, row, h⟩)
    rw [hd] at c3
    clear h h0 hd
    go_enter Try.func13, Try.ntmps13
    go_wp2
    go_returns
    exact ⟨rfl, R.out, Turn.refl _ _⟩
  | false =>
    have ht : Turn (· = d) w (w.setCell ⟨d, 2, none⟩ (.int .i64 n)) := turn_cell _ _ _ _ rfl
    have R : Hid (DiskM (w.setCell ⟨d, 2, none⟩ (.int .i64 n)) d S (fuseP D n)) := hideIt (by
      have e : fuseP D n = ⟨D.files, D.room, if n < 0 then none else some n.toNat, false⟩ := by simp [fuseP, hd]
      have h1 := h.rehead (w' := w.setCell ⟨d, 2, none⟩ (.int .i64 n)) (left' := n) (dead' := false) (u := if n < 0 then none else some n.toNat) (hd ▸ h.head.setLeft n) ht (by split <;> simp [FuseIs] <;> omega) hn
      exact ⟨h0.fuse n, m, es, c, n, loc, row, e ▸ h1⟩)
    have T : Hid (Turn S w (w.setCell ⟨d, 2, none⟩ (.int .i64 n))) := hideIt (ht.mono fun i hi => hi ▸ h.mineD)
    rw [hd] at c3
    clear h h0 hd ht
    go_enter Try.func13, Try.ntmps13
    go_wp2
    go_returns
    exact ⟨rfl, R.out, T.out⟩
theorem fuse_nil (n : Int) (w : World) : Calls Try.prog 13 #[.pointer none, .int .i64 n] w fun e w' => e = .returned (.tuple #[]) ∧ w' = w := by
  go_enter Try.func13, Try.ntmps13
  go_wp2
  go_returns
  exact ⟨rfl, rfl⟩
theorem crash_nil (n : Int) (w : World) : Calls Try.prog 14 #[.pointer none, .int .i64 n] w fun e w' => e = .returned (.tuple #[]) ∧ w' = w := by
  go_enter Try.func14, Try.ntmps14
  go_wp2
  go_step3
  go_wp2
  rw [Exit.noGoto_ret]
  go_returns
  exact ⟨rfl, rfl⟩
theorem used_nil (w : World) : Calls Try.prog 28 #[.pointer none] w fun e w' => e = .returned (.int .i64 0) ∧ w' = w := by
  go_enter Try.func28, Try.ntmps28
  go_wp2
  go_ret
  exact ⟨rfl, rfl⟩
theorem names_nil (w : World) : Calls Try.prog 26 #[.pointer none] w fun e w' => e = .returned (.slice none 0 0) ∧ w' = w := by
  go_enter Try.func26, Try.ntmps26
  go_wp2
  go_ret
  exact ⟨rfl, rfl⟩
theorem sync_nil (s : ByteArray) (w : World) : Calls Try.prog 12 #[.pointer none, .string s] w fun e w' => e = .returned (.bool false) ∧ w' = w := by
  have H := hideIt (find_nil s w)
  go_enter Try.func12, Try.ntmps12
  go_wp2_with fail
  refine H.out.mono ?_
  rintro e w2 ⟨rfl, rfl⟩
  go_wp2
  go_ret
  exact ⟨rfl, rfl⟩
theorem drop_nil (s : ByteArray) (w : World) : Calls Try.prog 25 #[.pointer none, .string s] w fun e w' => e = .returned (.bool false) ∧ w' = w := by
  have H := hideIt (find_nil s w)
  go_enter Try.func25, Try.ntmps25
  go_wp2_with fail
  refine H.out.mono ?_
  rintro e w2 ⟨rfl, rfl⟩
  go_wp2
  go_ret
  exact ⟨rfl, rfl⟩
theorem rename_nil (s t : ByteArray) (w : World) : Calls Try.prog 27 #[.pointer none, .string s, .string t] w fun e w' => e = .returned (.bool false) ∧ w' = w := by
  have H := hideIt (find_nil s w)
  go_enter Try.func27, Try.ntmps27
  go_wp2_with fail
  refine H.out.mono ?_
  rintro e w2 ⟨rfl, rfl⟩
  go_wp2
  go_ret
  exact ⟨rfl, rfl⟩

set_option maxRecDepth 8000 in
set_option maxHeartbeats 2000000 in
/-- bytes.Clone: a row of the call's own -/
theorem oclone_any (A : Option Addr) (bs : List UInt8) (n c : Nat) (w : World) (hp : PieceOk w ⟨A, c, bs⟩) (hn : bs.length = n) :
    Calls Try.prog 34 #[.slice A n c] w fun e w' => ∃ v, e = .returned v ∧ w'.ownsRow w.heap.size 5 1 v n (cellsOf bs) ∧ Below w.heap.size w w' := by
  have q22 : ∀ (w : World) (a : Option Addr) (n c n' c' : Nat), (binOp .eql 22 (.slice a n c) (.slice none n' c')).run Try.prog w = .ok (.bool a.isNone) w := fun w a n c n' c' => Lib.run_eql_slice_nil w _ _ a n c n' c' Try.underlying22
  have HP := hideIt hp
  subst hn
  cases A with
  | none =>
    have hc := hp.nil rfl
    have hf := hp.fits
    simp only at hc hf
    have hb0 : bs = [] := List.eq_nil_of_length_eq_zero (by omega)
    subst hb0
    subst hc
    clear hp hf
    go_enter Try.func34, Try.ntmps34
    go_wp2
    go_ret
    exact ⟨_, rfl, World.ownsRow_nil _ _ _ _, Below.refl _ _⟩
  | some a =>
    have hl := hp.long
    simp only at hl
    clear hp
    have hw0 : Below w.heap.size w (w.alloc (.cells #[] 5)) := below_new w _
    go_enter Try.func34, Try.ntmps34
    go_wp2_with (at_builtin; refine wpList_app rfl (.tmp 5) (.tmp 6) rfl w.heap.size _ 0 [] rfl (World.ownsRow_made w #[] 0 (Nat.le_refl _) (Nat.zero_le _) rfl) (some a) bs.length c _ bs rfl rfl (fun h => by cases h) (HP.out.keep (below_new w _)).bytes (by omega) (below_new w (.cells #[] 5)).size ?_)
    intro v' w1 hown hgrow
    have HB : Hid (Below w.heap.size w w1) := hideIt ((below_new w _).grown hgrow (below_new w (.cells #[] 5)).size (by intro k hk; simp [Value.ownBlock] at hk; omega))
    obtain ⟨A', c', rfl, _, h3, h4, h5, h6⟩ := own_open hown
    have HO : Hid (w1.ownsRow w.heap.size 5 1 (.slice A' bs.length c') bs.length (cellsOf bs)) := hideIt (by simpa using hown)
    clear hown hgrow h6
    go_wp2
    go_ret
    exact ⟨_, by simp, HO.out, HB.out⟩
theorem go_oclone : goFn Try.prog 34 = true := by kernel_rfl

def readL (D : DiskP) (s : List UInt8) : List UInt8 := ((findP D.files s).map FileP.b).getD []
def ReadPost (D : DiskP) (s : List UInt8) (w : World) (e : Ending) (w' : World) : Prop :=
  ∃ v, e = .returned (.tuple #[v, .bool (findP D.files s).isSome]) ∧ w'.ownsRow w.heap.size 5 1 v (readL D s).length (cellsOf (readL D s)) ∧ Below w.heap.size w w'
theorem DiskM.size {w : World} {d : Nat} {S : Nat → Prop} {D : DiskP} (h : DiskM w d S D) {s : List UInt8} {f : FileP} (hf : findP D.files s = some f) : f.b.length ≤ 1048576 := (h.1.found hf).2.2.2
/-- a file's row, as a piece -/
theorem FileAt.piece {w : World} {fb n : Nat} {v : Value} {b : List UInt8} (h : FileAt w fb v b n) (hb : b.length ≤ 140737488355328) : ∃ A c, v = .slice A b.length c ∧ PieceOk w ⟨A, c, b⟩ := by
  obtain ⟨A, c, e, _, hp⟩ := own_pieceAny h.row hb
  exact ⟨A, c, e, hp⟩
set_option maxHeartbeats 1000000 in
theorem read_any {w : World} {d : Nat} {S : Nat → Prop} {D : DiskP} (h : DiskM w d S D) (s : List UInt8) : Calls Try.prog 15 #[.pointer (some ⟨d, 0, none⟩), .string (strOf s)] w (ReadPost D s w) := by
  have hsz := fun f => h.size (s := s) (f := f)
  obtain ⟨h0, m, es, c, left, loc, row, h⟩ := h
  have HF := hideIt (find_in h s)
  cases hf : findP D.files s with
  | none =>
    have R : Hid (ReadPost D s w (.returned (.tuple #[.slice none 0 0, .bool false])) w) := hideIt ⟨_, by rw [hf]; rfl, by simp [readL, hf]; exact World.ownsRow_nil _ _ _ _, Below.refl _ _⟩
    rw [hf] at HF
    clear h h0 hf hsz
    go_enter Try.func15, Try.ntmps15
    go_wp2_with fail
    refine HF.out.mono ?_
    rintro e w2 ⟨rfl, rfl⟩
    unfold ptrTo
    go_wp2_with fail
    go_ret2
    exact R.out
  | some f =>
    have hs := hsz f hf
    have hfile := h.file s f hf
    obtain ⟨A, c', hv, hp⟩ := hfile.piece (by omega)
    have HC := hideIt (oclone_any A f.b f.b.length c' w hp rfl)
    have c0 := hfile.c0
    rw [hv] at c0
    have R : Hid (∀ v w', w'.ownsRow w.heap.size 5 1 v f.b.length (cellsOf f.b) → Below w.heap.size w w' → ReadPost D s w (.returned (.tuple #[v, .bool true])) w') := hideIt fun v w' h1 h2 => ⟨v, by rw [hf]; rfl, by simpa [readL, hf] using h1, h2⟩
    rw [hf] at HF
    clear h h0 hf hsz hfile hv hp hs
    go_enter Try.func15, Try.ntmps15
    go_wp2_with fail
    refine HF.out.mono ?_
    rintro e w2 ⟨rfl, rfl⟩
    unfold ptrTo
    go_wp2_with fail
    refine HC.out.mono ?_
    rintro e w2 ⟨v, rfl, h1, h2⟩
    have RR := hideIt (R.out v w2 h1 h2)
    clear h1 h2
    go_wp2_with fail
    go_ret2
    exact RR.out
end Go.Proofs.Ythpbhfepiekchaa
