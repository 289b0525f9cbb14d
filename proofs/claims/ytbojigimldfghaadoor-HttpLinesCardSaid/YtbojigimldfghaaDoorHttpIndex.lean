/- Contract of bytes.Index (the library's own, laid at this program), in the words of cutS. -/
import Derived.Test.YtbojigimldfghaaDoorHttpPlain
import Derived.Test.YtbojigimldfghaaDoorMaxLen
import Derived.Test.YtbojigimldfghaaDoorStrFacts
import Derived.Shelf.Bytes.SlIndexWhole
namespace Go.Proofs.YtbojigimldfghaaDoor
open Go.ChangeShapes Go.WideShapes Go.ChangeAt Go.RowKit Go.Shelf
set_option linter.unusedVariables false
set_option linter.unusedSimpArgs false

def renI : Go.Shelf.Ren := ⟨fun | 115 => 34 | 185 => 56 | 187 => 69 | 224 => 71 | 253 => 70 | 254 => 72 | 255 => 81 | 291 => 82 | n => n, fun | 0 => 0 | 3 => 3 | 4 => 4 | 5 => 5 | 9 => 9 | 37 => 22 | 46 => 100 | 51 => 107 | 146 => 108 | n => n, fun | 1 => 0 | n => n⟩
theorem laysI : Go.Proofs.Lays.n185 Tryd.prog renI := {
  mixed := by kernel_rfl
  f115 := Tryd.func34.trans (congrArg some (by kernel_rfl))
  f185 := Tryd.func56.trans (congrArg some (by kernel_rfl))
  f187 := Tryd.func69.trans (congrArg some (by kernel_rfl))
  f224 := Tryd.func71.trans (congrArg some (by kernel_rfl))
  f253 := Tryd.func70.trans (congrArg some (by kernel_rfl))
  f254 := Tryd.func72.trans (congrArg some (by kernel_rfl))
  f255 := Tryd.func81.trans (congrArg some (by kernel_rfl))
  f291 := Tryd.func82.trans (congrArg some (by kernel_rfl))
  t0 := Tryd.underlying0
  a0 := Tryd.isAgg0
  z0 := Tryd.sizeOf0
  v0 := Tryd.zeroValue0
  t3 := Tryd.underlying3
  a3 := Tryd.isAgg3
  z3 := Tryd.sizeOf3
  v3 := Tryd.zeroValue3
  t4 := Tryd.underlying4
  a4 := Tryd.isAgg4
  z4 := Tryd.sizeOf4
  v4 := Tryd.zeroValue4
  t5 := Tryd.underlying5
  a5 := Tryd.isAgg5
  z5 := Tryd.sizeOf5
  v5 := Tryd.zeroValue5
  t9 := Tryd.underlying9
  a9 := Tryd.isAgg9
  z9 := Tryd.sizeOf9
  v9 := Tryd.zeroValue9
  t37 := Tryd.underlying22
  a37 := Tryd.isAgg22
  z37 := Tryd.sizeOf22
  v37 := Tryd.zeroValue22
  t46 := Tryd.underlying100
  a46 := Tryd.isAgg100
  z46 := Tryd.sizeOf100
  v46 := Tryd.zeroValue100
  t51 := Tryd.underlying107
  a51 := Tryd.isAgg107
  z51 := Tryd.sizeOf107
  v51 := Tryd.zeroValue107
  t146 := Tryd.underlying108
  a146 := Tryd.isAgg108
  z146 := Tryd.sizeOf108
  v146 := Tryd.zeroValue108
  g1 := by kernel_rfl }
theorem libBytes_is (bs : List UInt8) : Lib.bytesOf (bs.map fun b => (b.toNat : Int)) = bs := by
  unfold Lib.bytesOf
  rw [List.map_map]
  conv => rhs; rw [← List.map_id bs]
  refine List.map_congr_left fun b _ => ?_
  simp
/-- where the first such end begins; -1: nowhere -/
def cutI (sep l : List UInt8) : Int := match cutS sep l with | none => -1 | some x => (x.1.length : Int)
theorem nums_range (bs : List UInt8) : ∀ x ∈ bs.map (fun b => (b.toNat : Int)), 0 ≤ x ∧ x < 256 := by
  intro x hx
  obtain ⟨b, _, rfl⟩ := List.mem_map.1 hx
  have := b.toNat_lt
  omega
theorem piece_cells {w : World} {A : Option Addr} {bs : List UInt8} {c : Nat} (hp : PieceOk w ⟨A, c, bs⟩) (a : Addr) (ha : A = some a) : ∀ i, i < bs.length → w.cell? (a.add i) = some (.int .u8 ((bs.map fun b => (b.toNat : Int)).getD i 0)) := fun i hi => by
  obtain ⟨b, off, e, _, hc⟩ := hp.bytes (show 0 < bs.length by omega)
  simp only at e
  rw [ha] at e
  cases e
  rw [Go.WideShapes.add_plain, hc i hi]
  simp [List.getD, hi]
theorem index_any (A : Option Addr) (bs : List UInt8) (n c : Nat) (g d : Nat) (sep : List UInt8) (k : Nat) (w : World) (hp : PieceOk w ⟨A, c, bs⟩) (hn : bs.length = n) (hl : n ≤ 1000000000) (hq : PieceOk w ⟨some ⟨g, 0, none⟩, d, sep⟩) (hk : sep.length = k) (h0 : 0 < k) (hm : MaxOk w) :
    Calls Tryd.prog 56 #[.slice A n c, .slice (some ⟨g, 0, none⟩) k d] w fun e w' => e = .returned (.int .i64 (cutI sep bs)) ∧ Below w.heap.size w w' := by
  subst hn hk
  obtain ⟨m, hmm⟩ := hm
  have hs : sep ≠ [] := fun e => by subst e; simp at h0
  have hix : Lib.index bs sep = cutI sep bs := cut_index sep hs bs
  have hfit := hp.fits
  have hlq := hq.long
  simp only at hfit hlq
  cases A with
  | some a =>
    have := Any.bytes_Index_at laysI a ⟨g, 0, none⟩ bs.length c sep.length d (bs.map fun b => (b.toNat : Int)) (sep.map fun b => (b.toNat : Int)) m w (by simp) (by simp) (nums_range bs) (nums_range sep) (piece_cells hp a rfl) (piece_cells hq _ rfl) hfit (by omega) (by omega) hmm
    rw [libBytes_is, libBytes_is, hix] at this
    refine this.mono ?_
    rintro e w' ⟨rfl, q, rfl⟩
    exact ⟨rfl, ⟨rfl, rfl, rfl, Nat.le_refl _, fun _ _ => rfl⟩⟩
  | none =>
    have hc0 := hp.nil rfl
    simp only at hc0
    have hb : bs = [] := List.eq_nil_of_length_eq_zero (by omega)
    subst hb
    subst hc0
    have := Any.bytes_Index_nil laysI (some ⟨g, 0, none⟩) sep.length d w (by omega) (fun h1 => ⟨g, 0, ((sep[0]).toNat : Int), rfl, by
      have := piece_cells hq _ rfl 0 (by omega)
      simpa [Addr.add, List.getD, h0] using this⟩)
    refine this.mono ?_
    rintro e w' ⟨rfl, rfl⟩
    refine ⟨?_, Below.refl _ _⟩
    rw [if_neg (by omega)]
    rfl
theorem go_index : goFn Tryd.prog 56 = true := by kernel_rfl
end Go.Proofs.YtbojigimldfghaaDoor
