/- The chapter's example, walked. -/
import Derived.Test.YthpbhfepiekchaaDiskAppend
import Derived.Test.YthpbhfepiekchaaDiskCrash
import Derived.Test.YthpbhfepiekchaaDiskSync
import Derived.Test.YthpbhfepiekchaaLit
namespace Go.Proofs.Ythpbhfepiekchaa
open Go.ChangeShapes Go.WideShapes Go.ChangeAt Go.RowKit
set_option linter.unusedVariables false
set_option linter.unusedSimpArgs false

/-- a disk from block B on, of a call that has left all below B as it was -/
structure DW (w0 : World) (B : Nat) (w : World) (d : Nat) (S : Nat → Prop) (D : DiskP) : Prop where
  disk : DiskM w d S D
  high : ∀ k, S k → B ≤ k
  below : Below B w0 w
  size : B ≤ w.heap.size
theorem DW.acts {w0 : World} {B : Nat} {w : World} {d : Nat} {S : Nat → Prop} {D : DiskP} (h : DW w0 B w d S D) {R : DiskP × Bool} {e : Ending} {w' : World} (ha : Acts w d S R e w') : e = .returned (.bool R.2) ∧ ∃ S', DW w0 B w' d S' R.1 ∧ Turn S w w' ∧ ∀ k, S' k → S k ∨ w.heap.size ≤ k := by
  obtain ⟨e1, S', h1, h2, h3⟩ := ha
  refine ⟨e1, S', ⟨h1, fun k hk => ?_, h.below.trans (h2.below h.size h.high), Nat.le_trans h.size h2.size⟩, h2, h3⟩
  rcases h3 k hk with h4 | h4
  · exact h.high k h4
  · have := h.size; omega
theorem DW.more {w0 : World} {B : Nat} {w : World} {d : Nat} {S : Nat → Prop} {D : DiskP} (h : DW w0 B w d S D) {w' : World} (hb : Below w.heap.size w w') : DW w0 B w' d S D :=
  ⟨h.disk.below hb, h.high, h.below.trans (hb.mono h.size), Nat.le_trans h.size hb.size⟩
theorem DW.fused {w0 : World} {B : Nat} {w : World} {d : Nat} {S : Nat → Prop} {D E : DiskP} (h : DW w0 B w d S D) {w' : World} (hd : DiskM w' d S E) (ht : Turn S w w') : DW w0 B w' d S E :=
  ⟨hd, h.high, h.below.trans (ht.below h.size h.high), Nat.le_trans h.size ht.size⟩
theorem DW.new {room : Int} {w0 w : World} {e : Ending} {w' : World} (hb : Below w0.heap.size w0 w) (h : NewPost room w e w') : ∃ d S, e = .returned (.pointer (some ⟨d, 0, none⟩)) ∧ DW w0 w0.heap.size w' d S (newP room) ∧ Below w.heap.size w w' ∧ ∀ k, S k → w.heap.size ≤ k := by
  obtain ⟨d, S, e1, h1, h2, h3⟩ := h
  exact ⟨d, S, e1, ⟨h1, fun k hk => Nat.le_trans hb.size (h3 k hk), hb.trans (h2.mono hb.size), Nat.le_trans hb.size h2.size⟩, h2, h3⟩
/-- bytes that were there ahead of the disk's blocks -/
theorem DW.apart {w0 : World} {w : World} {d : Nat} {S : Nat → Prop} {D : DiskP} (h : DW w0 w0.heap.size w d S D) {A : Option Addr} {c : Nat} {b : List UInt8} (hp : PieceOk w0 ⟨A, c, b⟩) : ∀ k, S k → Apart A b k := fun k hk => hp.apartNew (h.high k hk)
/-- bytes that lie in a block behind all of the disk's -/
theorem apart_new {w : World} {d : Nat} {S : Nat → Prop} {D : DiskP} (h : DiskM w d S D) {g c : Nat} {b : List UInt8} (hg : w.heap.size ≤ g) : ∀ k, S k → Apart (some ⟨g, 0, none⟩) b k := fun k hk hn ad e he => by
  obtain rfl := Option.some.inj e
  have := h.low k hk
  simp only at he
  omega
def xS : List UInt8 := [120]
theorem known_a : appendP (newP 100) xS [97, 98] = (⟨[⟨xS, [97, 98], 0⟩], 100, none, false⟩, true) := by
  rw [show newP 100 = ⟨[], 100, none, false⟩ from rfl, append_first (by decide) (by decide)]; rfl
theorem known_b : syncP ⟨[⟨xS, [97, 98], 0⟩], 100, none, false⟩ xS = (⟨[⟨xS, [97, 98], 2⟩], 100, none, false⟩, true) := by
  rw [sync_one (by simp)]; rfl
theorem known_c : appendP ⟨[⟨xS, [97, 98], 2⟩], 100, none, false⟩ xS [99, 100] = (⟨[⟨xS, [97, 98, 99, 100], 2⟩], 100, none, false⟩, true) := by
  rw [append_one (by decide) (by decide)]; rfl
theorem known_d : crashP ⟨[⟨xS, [97, 98, 99, 100], 2⟩], 100, none, false⟩ 1 = ⟨[⟨xS, [97, 98, 99], 3⟩], 100, none, false⟩ := by
  have := crash_one (room := 100) (u := none) (d := false) (s := xS) (a := [97, 98, 99, 100]) (n := 2) (k := 1)
  exact this
theorem known_r : readL ⟨[⟨xS, [97, 98, 99], 3⟩], 100, none, false⟩ xS = [97, 98, 99] := by simp [readL, findP]
theorem known_l : lastL ⟨[⟨xS, [97, 98, 99], 3⟩], 100, none, false⟩ xS = [97, 98, 99] := by simp [lastL, findP]
theorem known_f : (findP (⟨[⟨xS, [97, 98, 99], 3⟩], 100, none, false⟩ : DiskP).files xS).isSome = true := by simp [findP]
set_option maxRecDepth 100000 in
set_option maxHeartbeats 4000000 in
theorem known12_any (w : World) : Calls Try.prog 9 #[] w fun e w' => e = .returned (.bool true) ∧ Below w.heap.size w w' := by
  have HNW := hideIt (new_any 100 w)
  go_enter Try.func9, Try.ntmps9
  go_wp2_with fail
  refine HNW.out.mono ?_
  intro e w1 hnew
  obtain ⟨d, S, rfl, hD, _, _⟩ := DW.new (Below.refl _ _) hnew
  have hcv := conv_lit w1 #[.int .u8 97, .int .u8 98] 2 rfl
  have hP := lit_piece w1 #[.int .u8 97, .int .u8 98] [97, 98] 2 rfl rfl (by omega)
  have hG := lit_grew w1 #[.int .u8 97, .int .u8 98] 5 (2, 3)
  have HAP := hideIt (append_any (hD.more hG).disk xS (by decide) _ [97, 98] 2 2 hP rfl (apart_new (c := 2) hD.disk (Nat.le_refl _)))
  have HD := hideIt (hD.more hG)
  clear hnew hD hP hG
  go_wp2_with fail
  refine HAP.out.mono ?_
  intro e w2 ha
  obtain ⟨rfl, S2, hD2, _, _⟩ := HD.out.acts ha
  rw [known_a] at hD2 ⊢
  have HSY := hideIt (sync_any hD2.disk xS)
  have HD2 := hideIt hD2
  clear ha hD2 HD
  go_wp2_with fail
  refine HSY.out.mono ?_
  intro e w3 ha
  obtain ⟨rfl, S3, hD3, _, _⟩ := HD2.out.acts ha
  rw [known_b] at hD3 ⊢
  have hcv3 := conv_lit w3 #[.int .u8 99, .int .u8 100] 2 rfl
  have hP3 := lit_piece w3 #[.int .u8 99, .int .u8 100] [99, 100] 2 rfl rfl (by omega)
  have hG3 := lit_grew w3 #[.int .u8 99, .int .u8 100] 5 (2, 3)
  have HAP3 := hideIt (append_any (hD3.more hG3).disk xS (by decide) _ [99, 100] 2 2 hP3 rfl (apart_new (c := 2) hD3.disk (Nat.le_refl _)))
  have HD3 := hideIt (hD3.more hG3)
  clear ha hD3 HD2 hP3 hG3 hcv
  go_wp2_with fail
  refine HAP3.out.mono ?_
  intro e w4 ha
  obtain ⟨rfl, S4, hD4, _, _⟩ := HD3.out.acts ha
  rw [known_c] at hD4 ⊢
  have HCR := hideIt (crash_any hD4.disk 1 (by omega))
  have HD4 := hideIt hD4
  clear ha hD4 HD3 hcv3
  go_wp2_with fail
  refine HCR.out.mono ?_
  rintro e w5 ⟨rfl, hd5, ht5⟩
  have hD5 := HD4.out.fused hd5 ht5
  rw [known_d] at hD5
  have HRD := hideIt (read_any hD5.disk xS)
  have HD5 := hideIt hD5
  clear hd5 ht5 hD5 HD4
  go_wp2_with fail
  refine HRD.out.mono ?_
  rintro e w6 ⟨v, rfl, hv, hb6⟩
  rw [known_f]
  rw [known_r] at hv
  obtain ⟨A6, c6, rfl, _, _, _, _, hby⟩ := own_open hv
  have hc6 := conv_bytes A6 [97, 98, 99] 3 c6 w6.heap.size w6 hby rfl
  have hst : strOf [97, 98, 99] = ⟨#[97, 98, 99]⟩ := rfl
  rw [hst] at hc6
  have HD6 := hideIt (HD5.out.more hb6)
  have HLS := hideIt (lasting_any HD6.out.disk xS)
  clear hv hb6 hby HD5 hst
  go_wp2_with fail
  refine HLS.out.mono ?_
  rintro e w7 ⟨v, rfl, hv, hb7⟩
  rw [known_l] at hv
  obtain ⟨A7, c7, rfl, _, _, _, _, hby⟩ := own_open hv
  have hc7 := conv_bytes A7 [97, 98, 99] 3 c7 w7.heap.size w7 hby rfl
  have hst : strOf [97, 98, 99] = ⟨#[97, 98, 99]⟩ := rfl
  rw [hst] at hc7
  have HD7 := hideIt (HD6.out.more hb7)
  clear hv hb7 hby HD6 hst hc6
  go_wp2_with fail
  go_ret
  exact ⟨rfl, HD7.out.below⟩
theorem go_known12 : goFn Try.prog 9 = true := by kernel_rfl
end Go.Proofs.Ythpbhfepiekchaa
