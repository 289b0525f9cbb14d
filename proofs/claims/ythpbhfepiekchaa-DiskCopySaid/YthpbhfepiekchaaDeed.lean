/- Deeds: what is done to a disk; the law's heavy, do. -/
import Derived.Test.YthpbhfepiekchaaRefDRun
namespace Go.Proofs.Ythpbhfepiekchaa
open Go.ChangeShapes Go.WideShapes Go.ChangeAt Go.RowKit
set_option linter.unusedVariables false
set_option linter.unusedSimpArgs false

structure DeedR where
  kind : Nat
  a : Nat
  z : Nat
  n : Int
  A : Option Addr
  c : Nat
  b : List UInt8
  deriving Inhabited
def DeedR.cells (x : DeedR) : Array Value := #[.int .u8 (x.kind : Int), .int .u8 (x.a : Int), .int .u8 (x.z : Int), .int .i64 x.n, .slice x.A x.b.length x.c]
def DeedR.ok (w : World) (x : DeedR) : Prop := x.kind < 256 ∧ x.a < 256 ∧ x.z < 256 ∧ (-9223372036854775808 ≤ x.n ∧ x.n ≤ 9223372036854775807) ∧ PieceOk w ⟨x.A, x.c, x.b⟩
/-- a row of deeds that can be read -/
def DeedsAt (w : World) (A : Option Addr) (ds : List DeedR) : Prop :=
  0 < ds.length → ∃ b off, A = some ⟨b, off, none⟩ ∧ b < w.heap.size ∧ ∀ j x, ds[j]? = some x → w.cell? ⟨b, off + j * 5, none⟩ = some (.int .u8 (x.kind : Int)) ∧ w.cell? ⟨b, off + j * 5 + 1, none⟩ = some (.int .u8 (x.a : Int)) ∧ w.cell? ⟨b, off + j * 5 + 2, none⟩ = some (.int .u8 (x.z : Int)) ∧ w.cell? ⟨b, off + j * 5 + 3, none⟩ = some (.int .i64 x.n) ∧ w.cell? ⟨b, off + j * 5 + 4, none⟩ = some (.slice x.A x.b.length x.c)
theorem DeedsAt.keep {w w' : World} {A : Option Addr} {ds : List DeedR} (h : DeedsAt w A ds) (hb : Below w.heap.size w w') : DeedsAt w' A ds := fun hn => by
  obtain ⟨b, off, e, hlt, hc⟩ := h hn
  refine ⟨b, off, e, Nat.lt_of_lt_of_le hlt hb.size, fun j x hj => ?_⟩
  obtain ⟨h0, h1, h2, h3, h4⟩ := hc j x hj
  exact ⟨(hb.cell (p := ⟨b, _, none⟩) hlt).trans h0, (hb.cell (p := ⟨b, _, none⟩) hlt).trans h1, (hb.cell (p := ⟨b, _, none⟩) hlt).trans h2, (hb.cell (p := ⟨b, _, none⟩) hlt).trans h3, (hb.cell (p := ⟨b, _, none⟩) hlt).trans h4⟩
theorem DeedR.ok.keep {w w' : World} {x : DeedR} (h : x.ok w) (hb : Below w.heap.size w w') : x.ok w' := ⟨h.1, h.2.1, h.2.2.1, h.2.2.2.1, h.2.2.2.2.keep hb⟩
def SaysB (e : Ending) : Prop := ∃ b : Bool, e = .returned (.bool b)
set_option maxHeartbeats 4000000 in
theorem heavy_any {w : World} {A : Option Addr} {ds : List DeedR} (h : DeedsAt w A ds) (n c : Nat) (hn : ds.length = n) (hm : n ≤ 9223372036854775807) : Calls Try.prog 18 #[.slice A n c] w fun e w' => SaysB e ∧ Below w.heap.size w w' := by
  have HD := hideIt h
  have HNN := hideIt hn
  have HW := hideIt (Below.refl w.heap.size w)
  clear h hn
  go_enter Try.func18, Try.ntmps18
  go_wp2
  go_loopw [3, 4] (fun s i wr => ∃ (x : Int) (j : Nat), s = .int .i64 x ∧ i = .int .i64 (j : Int) ∧ j ≤ n ∧ Below w.heap.size w wr) (fun s i wr => n - (intOf i).toNat)
  case atStart => exact ⟨0, 0, rfl, rfl, by omega, HW.out⟩
  case round =>
    obtain ⟨x, j, rfl, rfl, hj, hb⟩ := hrel
    have HB := hideIt hb
    have HR := hideIt (HD.out.keep hb)
    clear hb
    by_cases hlt : j < n
    · have hlt' : (j : Int) < (n : Int) := by omega
      have hwj : IntKind.i64.wrap ((j : Int) + 1) = (j : Int) + 1 := IntWalk.i64_in _ (by omega)
      obtain ⟨r, hr⟩ : ∃ r, ds[j]? = some r := ⟨_, List.getElem?_eq_getElem (by rw [HNN.out]; exact hlt)⟩
      obtain ⟨b, off, rfl, hbb, hc⟩ := HR.out (by rw [HNN.out]; omega)
      obtain ⟨_, _, _, _, k4⟩ := hc j r hr
      clear hc hr
      go_wp2
      go_roundw
      case rel => exact ⟨_, j + 1, rfl, by simp, by omega, HB.out⟩
      case measure => simp [intOf]; omega
    · have hlt' : ¬ (j : Int) < (n : Int) := by omega
      have hlt2 : decide (j < n) = false := decide_eq_false (by omega)
      go_wp2
      go_ret
      exact ⟨⟨_, rfl⟩, HB.out⟩
theorem go_heavy : goFn Try.prog 18 = true := by kernel_rfl
end Go.Proofs.Ythpbhfepiekchaa
