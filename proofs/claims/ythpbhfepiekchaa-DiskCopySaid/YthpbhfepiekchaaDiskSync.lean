/- Contracts of Sync, Lasting, Drop. -/
import Derived.Test.YthpbhfepiekchaaDiskFind
import Derived.Deep.RegionWith
namespace Go.Proofs.Ythpbhfepiekchaa
open Go.ChangeShapes Go.WideShapes Go.ChangeAt Go.RowKit
set_option linter.unusedVariables false
set_option linter.unusedSimpArgs false

def lastL (D : DiskP) (s : List UInt8) : List UInt8 := ((findP D.files s).map fun f => f.b.take f.lasts).getD []
def LastPost (D : DiskP) (s : List UInt8) (w : World) (e : Ending) (w' : World) : Prop :=
  ∃ v, e = .returned v ∧ w'.ownsRow w.heap.size 5 1 v (lastL D s).length (cellsOf (lastL D s)) ∧ Below w.heap.size w w'
theorem piece_take {w : World} {A : Option Addr} {c : Nat} {b : List UInt8} (h : PieceOk w ⟨A, c, b⟩) (n : Nat) : PieceOk w ⟨A, c, b.take n⟩ := by
  have h2 := h.fits; have h4 := h.long
  simp only at h2 h4
  exact ⟨h.bytes.front n, by simp only [List.length_take]; omega, h.most, by simp only [List.length_take]; omega, h.nil⟩
set_option maxHeartbeats 2000000 in
theorem lasting_any {w : World} {d : Nat} {S : Nat → Prop} {D : DiskP} (h : DiskM w d S D) (s : List UInt8) : Calls Try.prog 16 #[.pointer (some ⟨d, 0, none⟩), .string (strOf s)] w (LastPost D s w) := by
  have hsz := fun f => h.size (s := s) (f := f)
  obtain ⟨h0, m, es, c, left, loc, row, h⟩ := h
  have HF := hideIt (find_in h s)
  cases hf : findP D.files s with
  | none =>
    have R : Hid (LastPost D s w (.returned (.slice none 0 0)) w) := hideIt ⟨_, rfl, by simp [lastL, hf]; exact World.ownsRow_nil _ _ _ _, Below.refl _ _⟩
    rw [hf] at HF
    clear h h0 hf hsz
    go_enter Try.func16, Try.ntmps16
    go_wp2_with fail
    refine HF.out.mono ?_
    rintro e w2 ⟨rfl, rfl⟩
    unfold ptrTo
    go_wp2_with fail
    go_ret
    exact R.out
  | some f =>
    have hs := hsz f hf
    have hfile := h.file s f hf
    have hle := (h0.found hf).2.1
    obtain ⟨A, c', hv, hp⟩ := hfile.piece (by omega)
    have hfit := hp.fits
    simp only at hfit
    have hsl := fun w => slice_hi A f.b.length c' f.lasts (by omega) w
    have hlt : (f.b.take f.lasts).length = f.lasts := by rw [List.length_take]; omega
    have HC : Hid (∀ u : World, Below w.heap.size w u → Calls Try.prog 34 #[.slice A f.lasts c'] u fun e w' => ∃ v, e = .returned v ∧ w'.ownsRow u.heap.size 5 1 v f.lasts (cellsOf (f.b.take f.lasts)) ∧ Below u.heap.size u w') := hideIt fun u hu => oclone_any A (f.b.take f.lasts) f.lasts c' u ((piece_take hp f.lasts).keep hu) hlt
    have c0 := hfile.c0
    have c1 := hfile.c1
    have d0 : w.drew.cell? ⟨loc s, 0, none⟩ = some (.slice A f.b.length c') := by rw [← hv]; exact c0
    have d1 : w.drew.cell? ⟨loc s, 1, none⟩ = some (.int .i64 (f.lasts : Int)) := c1
    rw [hv] at c0
    have R : Hid (∀ v w', w'.ownsRow w.heap.size 5 1 v f.lasts (cellsOf (f.b.take f.lasts)) → Below w.heap.size w w' → LastPost D s w (.returned v) w') := hideIt fun v w' h1 h2 => ⟨v, rfl, by simpa [lastL, hf, hlt] using h1, h2⟩
    rw [hf] at HF
    have HD := hideIt ((Below.refl w.heap.size w).drew)
    clear h h0 hf hsz hfile hv hp hs hle hlt
    go_enter Try.func16, Try.ntmps16
    go_wp2_with fail
    refine HF.out.mono ?_
    rintro e w2 ⟨rfl, rfl⟩
    unfold ptrTo
    go_wp2_with fail
    go_region_with (go_at_call 34; refine (HC.out _ HD.out).mono ?_; rintro e w3 ⟨v, rfl, g1, g2⟩; have RR := hideIt (R.out v w3 g1 (HD.out.trans g2)); clear g1 g2)
    all_goals
      go_wp2_with fail
      go_ret
      exact RR.out
end Go.Proofs.Ythpbhfepiekchaa
