/- The walk of RespMany. -/
import Derived.Test.YtolikoediafkkaaDoorRespKnown
import Derived.Test.YtolikoediafkkaaDoorRespLaid
import Derived.Test.YtolikoediafkkaaDoorPairOne
import Derived.Test.YtolikoediafkkaaDoorPairSet
import Derived.Deep.Cut
namespace Go.Proofs.YtolikoediafkkaaDoor
open Go.ChangeShapes Go.WideShapes Go.ChangeAt Go.RowKit
set_option linter.unusedVariables false
set_option linter.unusedSimpArgs false

def fX : PairL := ([88], [49])
def fBad : PairL := ([88], [97, 13, 10, 83, 101, 116, 45, 67, 111, 111, 107, 105, 101, 58, 32, 98])
theorem fX_is : (printF fX).2 = 0 := by kernel_rfl
theorem fBad_is : (printF fBad).2 = 12 := by kernel_rfl
theorem reason200 : reasonL 200 ≠ [] := by decide +kernel
theorem many_ok (k b : Nat) (hk : k ≤ 40) (hb : b ≤ 4000) : (printR ⟨200, List.replicate k fX, List.replicate b 0⟩).2 = 0 := by
  have h0 : badF (List.replicate k fX) = none := badF_all fun y hy => by rw [(List.mem_replicate.1 hy).2]; exact fX_is
  unfold printR
  rw [if_neg (show ¬ reasonL 200 = [] from reason200), if_neg (by simp; omega)]
  simp only
  rw [h0]
theorem many_long (fs : List PairL) (body : List UInt8) (h : ¬ (fs.length ≤ 40 ∧ body.length ≤ 4000)) : (printR ⟨200, fs, body⟩).2 = 3 := by
  unfold printR
  rw [if_neg (show ¬ reasonL 200 = [] from reason200), if_pos (by simp only; omega)]
theorem many_bad (k b : Nat) (hk : k ≤ 40) (h0 : 0 < k) (hb : b ≤ 4000) : (printR ⟨200, (List.replicate k fX).set (k - 1) fBad, List.replicate b 0⟩).2 = 12 := by
  obtain ⟨m, rfl⟩ : ∃ m, k = m + 1 := ⟨k - 1, by omega⟩
  have e : (List.replicate (m + 1) fX).set (m + 1 - 1) fBad = List.replicate m fX ++ [fBad] := by
    rw [show m + 1 - 1 = m by omega, List.replicate_succ', List.set_append_right _ _ (by simp)]
    simp
  rw [e]
  have h1 : badF (List.replicate m fX ++ [fBad]) = some fBad := by
    refine badF_at (j := m) (fun y hy => ?_) (by simp) (by rw [fBad_is]; decide)
    have h2 : (List.replicate m fX ++ [fBad]).take m = List.replicate m fX := by rw [List.take_append_of_le_length (by simp)]; simp
    rw [h2] at hy
    rw [(List.mem_replicate.1 hy).2]; exact fX_is
  unfold printR
  rw [if_neg (show ¬ reasonL 200 = [] from reason200), if_neg (by simp; omega)]
  simp only
  rw [h1]
  exact fBad_is
set_option maxRecDepth 8000 in
set_option maxHeartbeats 4000000 in
theorem respMany_walk (a0 : Int) (a1 : Int) (a2 : Bool) (w0 : (Lit.int .u8 a0).wf = true) (w1 : (Lit.int .u16 a1).wf = true) (w : World) (hT : Tabs w) :
    Calls Tryd.prog 7 #[.int .u8 a0, .int .u16 a1, .bool a2] w fun e w' => e = .returned (.bool true) ∧ Below w.heap.size w w' := by
  obtain ⟨hm, hpow⟩ := hT
  have hb0 := bounds_u8 w0
  have hb1 := bounds_u16 w1
  obtain ⟨n, rfl⟩ : ∃ n : Nat, a0 = (n : Int) := ⟨a0.toNat, by omega⟩
  obtain ⟨mm, rfl⟩ : ∃ mm : Nat, a1 = (mm : Int) := ⟨a1.toNat, by omega⟩
  obtain ⟨k, hk⟩ : ∃ k, n % 60 = k := ⟨_, rfl⟩
  obtain ⟨b, hb⟩ : ∃ b, mm % 5000 = b := ⟨_, rfl⟩
  have hki : (n : Int) % 60 = (k : Int) := by omega
  have hbi : (mm : Int) % 5000 = (b : Int) := by omega
  have hk60 : k < 60 := by omega
  have hb5 : b < 5000 := by omega
  have HPW := hideIt hpow
  clear w0 w1 hm hpow hb0 hb1 hk hb
  go_enter Tryd.func7, Tryd.ntmps7
  go_wp2_with (at_make; refine wpList_makeCap rfl (.tmp 18) (.tmp 18) rfl b b _ _ rfl rfl rfl rfl (by omega) (by omega) ?_; intro w1 hown hg)
  obtain ⟨A', c', e0, p1, p2, p3, p4, p5⟩ := own_open hown
  obtain ⟨e1, _, e2⟩ := (Value.slice.injEq ..).mp e0
  subst e1 e2
  have hb1 := below_made hg
  have hpc : PieceOk w1 ⟨some ⟨w.heap.size, 0, none⟩, b, List.replicate b 0⟩ := ⟨p5, by simp, by simp only; omega, by simp; omega, fun h => by cases h⟩
  have hbn := below_new w1 (.cells #[.int .i64 200, .slice none 0 0, .slice (some ⟨w.heap.size, 0, none⟩) b b] 25)
  have B2 := hideIt (below_then hb1 hbn)
  have G2 := hideIt (RCell.new w1 (.int .i64 200) (.slice none 0 0) (.slice (some ⟨w.heap.size, 0, none⟩) b b))
  have P2 := hideIt (hpc.keep hbn)
  have HGQ : Hid (w.heap.size ≤ w1.heap.size) := hideIt hb1.size
  have HAPA : Hid (∀ kk, w1.heap.size ≤ kk → Apart (some ⟨w.heap.size, 0, none⟩) (List.replicate b 0) kk) := hideIt fun kk h => hpc.apart h
  have HPK : Hid (∀ w', Below w1.heap.size (w1.alloc (.cells #[.int .i64 200, .slice none 0 0, .slice (some ⟨w.heap.size, 0, none⟩) b b] 25)) w' → PieceOk w' ⟨some ⟨w.heap.size, 0, none⟩, b, List.replicate b 0⟩) := hideIt fun w' hb => hpc.keep (hbn.trans hb)
  clear hown hg e0 p1 p2 p3 p4 p5 hb1 hpc hbn
  generalize w1.alloc (.cells #[.int .i64 200, .slice none 0 0, .slice (some ⟨w.heap.size, 0, none⟩) b b] 25) = Y at *
  generalize w1.heap.size = g8 at *
  go_loopw [9] (fun iv wr => ∃ j : Nat, j ≤ k ∧ iv = .int .i64 (j : Int) ∧ (∃ v, RCell wr g8 (.int .i64 200) v (.slice (some ⟨w.heap.size, 0, none⟩) b b) ∧ POwn (g8 + 1) v (List.replicate j fX) wr) ∧ Below g8 Y wr) (fun iv wr => k - (intOf iv).toNat)
  case atStart => exact ⟨0, by omega, rfl, ⟨_, G2.out, POwn.nil _ _⟩, Below.refl _ _⟩
  case round =>
    obtain ⟨j, hj, rfl, ⟨v, hgc, hov⟩, hbr⟩ := hrel
    have HG := hideIt hgc
    have HO := hideIt hov
    have BR := hideIt hbr
    have HGW : Hid (g8 + 1 ≤ wr.heap.size) := hideIt hgc.lt
    clear hgc hov hbr
    have hwj : IntKind.i64.wrap ((j : Int) + 1) = (j : Int) + 1 := IntWalk.i64_in _ (by omega)
    obtain ⟨vA, vc, rfl, _, _, _, _⟩ := HO.out.open
    have hOL := HO.out
    have hGL := HG.out
    rw [List.length_replicate] at hOL hGL
    have HO := hideIt hOL
    have HG := hideIt hGL
    clear hOL hGL
    have q1 := HG.out.c1
    by_cases hlt : j < k
    · have hji : (j : Int) < (k : Int) := by omega
      go_wp2_with (at_builtin; refine wpList_appP1 rfl (.tmp 27) (.tmp 29) rfl (g8 + 1) _ (List.replicate j fX) fX rfl HO.out rfl (by simp; omega) HGW.out ?_)
      intro v4 w4 o4 g4
      have hrs : List.replicate j fX ++ [fX] = List.replicate (j + 1) fX := List.replicate_succ'.symm
      rw [hrs] at o4
      obtain ⟨wA, wc, hv4, _, _, _, _⟩ := o4.open
      have B4 : Hid (Below g8 Y w4) := hideIt (BR.out.trans (g4 g8 (by omega)))
      have G4 : RCell w4 g8 (.int .i64 200) (.slice vA j vc) (.slice (some ⟨w.heap.size, 0, none⟩) b b) := ((g4 (g8 + 1) (Nat.le_refl _)).block g8 (by omega)).trans HG.out
      have f1 := G4.fz 1
      have k1' := G4.c1
      have GS := hideIt (G4.set1 v4)
      have BS : Hid (Below g8 Y (w4.setCell ⟨g8, 1, none⟩ v4)) := hideIt (B4.out.setCell (by exact Nat.le_refl _) v4)
      have OS : Hid (POwn (g8 + 1) v4 (List.replicate (j + 1) fX) (w4.setCell ⟨g8, 1, none⟩ v4)) := hideIt (o4.block fun kk hk => heap_setCell_past _ _ _ _ _ (fun e => by have := (o4.lt kk hk).1; omega))
      rw [List.length_replicate] at hv4
      subst hv4
      clear o4 g4 q1 B4 G4 HO HG
      go_wp2_with fail
      go_roundw
      case rel => exact ⟨j + 1, by omega, by go_num, ⟨_, GS.out, OS.out⟩, BS.out⟩
      case measure => simp [intOf]; omega
    · obtain rfl : j = k := by omega
      have hji : ¬ (j : Int) < (j : Int) := by omega
      have q2 := HG.out.c2
      have HSM : Hid (∀ p : PairL, p = fX ∨ p = fBad → p.1.length ≤ 400000 ∧ p.2.length ≤ 400000) := hideIt fun p hp => by
        rcases hp with rfl | rfl
        · exact ⟨by decide, by decide⟩
        · exact ⟨by decide, by decide⟩
      by_cases hbad : a2 = true ∧ 0 < j
      · obtain ⟨rfl, h0⟩ := hbad
        have h0i : (0 : Int) < (j : Int) := by omega
        obtain ⟨gg, cap, e1, hgb, hgl, hcp, _⟩ := POwn.form HO.out (by simp; exact h0)
        rw [List.length_replicate] at e1 hcp
        cases e1
        have HO3 := HO.out
        rw [show (Value.slice (some ⟨gg, 0, none⟩) j vc) = .slice (some ⟨gg, 0, none⟩) (List.replicate j fX).length vc by rw [List.length_replicate]] at HO3
        obtain ⟨s1, s2, s3, s4⟩ := HO3.setVal (j - 1) fX (by rw [List.getElem?_replicate, if_pos (by omega)]) [97, 13, 10, 83, 101, 116, 45, 67, 111, 111, 107, 105, 101, 58, 32, 98]
        rw [List.length_replicate] at s1
        have hidx : 2 * (j - 1) + 1 = (j - 1) * 2 + 1 := by omega
        rw [hidx] at s1 s2 s3 s4
        have e16 : strOf [97, 13, 10, 83, 101, 116, 45, 67, 111, 111, 107, 105, 101, 58, 32, 98] = (⟨#[97, 13, 10, 83, 101, 116, 45, 67, 111, 111, 107, 105, 101, 58, 32, 98]⟩ : ByteArray) := rfl
        rw [e16] at s1 s2
        have hwm : IntKind.i64.wrap ((j : Int) - 1) = ((j - 1 : Nat) : Int) := by rw [IntWalk.i64_in _ (by omega)]; omega
        have hjm1 : ((j - 1 : Nat) : Int) < (j : Int) := by omega
        obtain ⟨Z, hZ⟩ : ∃ Z, wr.setCell ⟨gg, (j - 1) * 2 + 1, none⟩ (.string ⟨#[97, 13, 10, 83, 101, 116, 45, 67, 111, 111, 107, 105, 101, 58, 32, 98]⟩) = Z := ⟨_, rfl⟩
        rw [hZ] at s1 s2
        have HZ := hideIt hZ
        have BZ8 : Below g8 Y Z := by rw [← hZ]; exact BR.out.setCell (by show g8 ≤ gg; omega) _
        have BZ := hideIt (B2.out.trans (BZ8.mono HGQ.out))
        have PZ := hideIt (HPK.out Z BZ8)
        have OZ : Hid (POwn (g8 + 1) (.slice (some ⟨gg, 0, none⟩) j vc) ((List.replicate j fX).set (j - 1) fBad) Z) := hideIt s1
        have GZ : Hid (RCell Z g8 (.int .i64 200) (.slice (some ⟨gg, 0, none⟩) j vc) (.slice (some ⟨w.heap.size, 0, none⟩) b b)) := hideIt ((s2.block g8 (by have := HGW.out; omega) (fun e => by cases e; omega)).trans HG.out)
        have HSB : Hid (∀ p ∈ (List.replicate j fX).set (j - 1) fBad, p = fX ∨ p = fBad) := hideIt fun p hp => by
          rcases List.mem_or_eq_of_mem_set hp with hp | rfl
          · exact Or.inl (List.mem_replicate.1 hp).2
          · exact Or.inr rfl
        have HSTO : Hid (wr.setCell ⟨gg, (j - 1) * 2 + 1, none⟩ (.string ⟨#[97, 13, 10, 83, 101, 116, 45, 67, 111, 111, 107, 105, 101, 58, 32, 98]⟩) = Z) := hideIt hZ
        clear s1 s2 BZ8 hZ HO3 e16 hidx HPK
        by_cases hk4 : j ≤ 40
        · have hk4i : (j : Int) ≤ 40 := by omega
          by_cases hb4 : b ≤ 4000
          · have hb4i : (b : Int) ≤ 4000 := by omega
            go_upto_region 10 with fail
            rw [HSTO.out]
            have d0 := GZ.out.c0
            have d1 := GZ.out.c1
            have d2 := GZ.out.c2
            have HPRI := hideIt (rprint_any ⟨200, (List.replicate j fX).set (j - 1) fBad, List.replicate b 0⟩ (.slice (some ⟨gg, 0, none⟩) j vc) (some ⟨w.heap.size, 0, none⟩) b _ ⟨OZ.out.reads, PZ.out⟩ (fun _ p hp => HSM.out p (HSB.out p hp)) (HPW.out.keep BZ.out))
            have HPC : (printR ⟨200, (List.replicate j fX).set (j - 1) fBad, List.replicate b 0⟩).2 = 12 := many_bad j b hk4 h0 hb4
            have HPZ := printR_zero (r := ⟨200, (List.replicate j fX).set (j - 1) fBad, List.replicate b 0⟩)
            unfold PrintRPost respV at HPRI
            rw [HPC] at HPRI HPZ
            obtain ⟨px, hpx⟩ : ∃ px, (printR ⟨200, (List.replicate j fX).set (j - 1) fBad, List.replicate b 0⟩).1 = px := ⟨_, rfl⟩
            rw [hpx] at HPRI HPZ
            simp only [List.length_replicate, List.length_set] at HPRI
            have hp0 : px = [] := HPZ (by decide)
            rw [hp0] at HPRI
            clear HPC HPZ hpx
            go_wp2_with fail
            refine HPRI.out.mono ?_
            rintro e u1 ⟨A3, c3, rfl, _, _, hb⟩
            have B5 := hideIt (below_then BZ.out hb)
            have HK := hideIt (known10_any u1 (HPW.out.keep B5.out))
            clear hb d0 d1 d2 HPRI
            simp only [List.length_nil]
            go_wp2_with fail
            refine HK.out.mono ?_
            rintro e u2 ⟨rfl, hb⟩
            have B6 := hideIt (below_then B5.out hb)
            clear hb
            go_wp2_with fail
            go_ret
            exact ⟨rfl, B6.out⟩
          · have hb4i : ¬ (b : Int) ≤ 4000 := by omega
            go_upto_region 10 with fail
            rw [HSTO.out]
            have d0 := GZ.out.c0
            have d1 := GZ.out.c1
            have d2 := GZ.out.c2
            have HPRI := hideIt (rprint_any ⟨200, (List.replicate j fX).set (j - 1) fBad, List.replicate b 0⟩ (.slice (some ⟨gg, 0, none⟩) j vc) (some ⟨w.heap.size, 0, none⟩) b _ ⟨OZ.out.reads, PZ.out⟩ (fun _ p hp => HSM.out p (HSB.out p hp)) (HPW.out.keep BZ.out))
            have HPC : (printR ⟨200, (List.replicate j fX).set (j - 1) fBad, List.replicate b 0⟩).2 = 3 := many_long _ _ (by simp; omega)
            have HPZ := printR_zero (r := ⟨200, (List.replicate j fX).set (j - 1) fBad, List.replicate b 0⟩)
            unfold PrintRPost respV at HPRI
            rw [HPC] at HPRI HPZ
            obtain ⟨px, hpx⟩ : ∃ px, (printR ⟨200, (List.replicate j fX).set (j - 1) fBad, List.replicate b 0⟩).1 = px := ⟨_, rfl⟩
            rw [hpx] at HPRI HPZ
            simp only [List.length_replicate, List.length_set] at HPRI
            have hp0 : px = [] := HPZ (by decide)
            rw [hp0] at HPRI
            clear HPC HPZ hpx
            go_wp2_with fail
            refine HPRI.out.mono ?_
            rintro e u1 ⟨A3, c3, rfl, _, _, hb⟩
            have B5 := hideIt (below_then BZ.out hb)
            have HK := hideIt (known10_any u1 (HPW.out.keep B5.out))
            clear hb d0 d1 d2 HPRI
            simp only [List.length_nil]
            go_wp2_with fail
            refine HK.out.mono ?_
            rintro e u2 ⟨rfl, hb⟩
            have B6 := hideIt (below_then B5.out hb)
            clear hb
            go_wp2_with fail
            go_ret
            exact ⟨rfl, B6.out⟩
        · have hk4i : ¬ (j : Int) ≤ 40 := by omega
          go_upto_region 10 with fail
          rw [HSTO.out]
          have d0 := GZ.out.c0
          have d1 := GZ.out.c1
          have d2 := GZ.out.c2
          have HPRI := hideIt (rprint_any ⟨200, (List.replicate j fX).set (j - 1) fBad, List.replicate b 0⟩ (.slice (some ⟨gg, 0, none⟩) j vc) (some ⟨w.heap.size, 0, none⟩) b _ ⟨OZ.out.reads, PZ.out⟩ (fun _ p hp => HSM.out p (HSB.out p hp)) (HPW.out.keep BZ.out))
          have HPC : (printR ⟨200, (List.replicate j fX).set (j - 1) fBad, List.replicate b 0⟩).2 = 3 := many_long _ _ (by simp; omega)
          have HPZ := printR_zero (r := ⟨200, (List.replicate j fX).set (j - 1) fBad, List.replicate b 0⟩)
          unfold PrintRPost respV at HPRI
          rw [HPC] at HPRI HPZ
          obtain ⟨px, hpx⟩ : ∃ px, (printR ⟨200, (List.replicate j fX).set (j - 1) fBad, List.replicate b 0⟩).1 = px := ⟨_, rfl⟩
          rw [hpx] at HPRI HPZ
          simp only [List.length_replicate, List.length_set] at HPRI
          have hp0 : px = [] := HPZ (by decide)
          rw [hp0] at HPRI
          clear HPC HPZ hpx
          go_wp2_with fail
          refine HPRI.out.mono ?_
          rintro e u1 ⟨A3, c3, rfl, _, _, hb⟩
          have B5 := hideIt (below_then BZ.out hb)
          have HK := hideIt (known10_any u1 (HPW.out.keep B5.out))
          clear hb d0 d1 d2 HPRI
          simp only [List.length_nil]
          go_wp2_with fail
          refine HK.out.mono ?_
          rintro e u2 ⟨rfl, hb⟩
          have B6 := hideIt (below_then B5.out hb)
          clear hb
          go_wp2_with fail
          go_ret
          exact ⟨rfl, B6.out⟩
      · have BW := hideIt (B2.out.trans (BR.out.mono HGQ.out))
        have PW := hideIt (HPK.out wr BR.out)
        have HSB : Hid (∀ p ∈ List.replicate j fX, p = fX ∨ p = fBad) := hideIt fun p hp => Or.inl (List.mem_replicate.1 hp).2
        have hcb : a2 = false ∨ (a2 = true ∧ ¬ (0 : Int) < (j : Int)) := by
          cases a2
          · exact Or.inl rfl
          · exact Or.inr ⟨rfl, fun h => hbad ⟨rfl, by omega⟩⟩
        clear HPK
        rcases hcb with rfl | ⟨rfl, h0⟩
        · by_cases hk4 : j ≤ 40
          · have hk4i : (j : Int) ≤ 40 := by omega
            by_cases hb4 : b ≤ 4000
            · have hb4i : (b : Int) ≤ 4000 := by omega
              go_upto_region 10 with fail
              have d0 := HG.out.c0
              have d1 := HG.out.c1
              have d2 := HG.out.c2
              have HPRI := hideIt (rprint_any ⟨200, List.replicate j fX, List.replicate b 0⟩ (.slice vA j vc) (some ⟨w.heap.size, 0, none⟩) b _ ⟨HO.out.reads, PW.out⟩ (fun _ p hp => HSM.out p (HSB.out p hp)) (HPW.out.keep BW.out))
              have HPC : (printR ⟨200, List.replicate j fX, List.replicate b 0⟩).2 = 0 := many_ok j b hk4 hb4
              have HPZ := printR_zero (r := ⟨200, List.replicate j fX, List.replicate b 0⟩)
              unfold PrintRPost respV at HPRI
              rw [HPC] at HPRI HPZ
              obtain ⟨px, hpx⟩ : ∃ px, (printR ⟨200, List.replicate j fX, List.replicate b 0⟩).1 = px := ⟨_, rfl⟩
              rw [hpx] at HPRI HPZ
              simp only [List.length_replicate, List.length_set] at HPRI
              clear HPC HPZ hpx
              go_wp2_with fail
              refine HPRI.out.mono ?_
              rintro e u1 ⟨A3, c3, rfl, _, _, hb⟩
              have B5 := hideIt (below_then BW.out hb)
              have HK := hideIt (known10_any u1 (HPW.out.keep B5.out))
              clear hb d0 d1 d2 HPRI
              simp only [List.length_nil]
              go_wp2_with fail
              refine HK.out.mono ?_
              rintro e u2 ⟨rfl, hb⟩
              have B6 := hideIt (below_then B5.out hb)
              clear hb
              go_wp2_with fail
              go_ret
              exact ⟨rfl, B6.out⟩
            · have hb4i : ¬ (b : Int) ≤ 4000 := by omega
              go_upto_region 10 with fail
              have d0 := HG.out.c0
              have d1 := HG.out.c1
              have d2 := HG.out.c2
              have HPRI := hideIt (rprint_any ⟨200, List.replicate j fX, List.replicate b 0⟩ (.slice vA j vc) (some ⟨w.heap.size, 0, none⟩) b _ ⟨HO.out.reads, PW.out⟩ (fun _ p hp => HSM.out p (HSB.out p hp)) (HPW.out.keep BW.out))
              have HPC : (printR ⟨200, List.replicate j fX, List.replicate b 0⟩).2 = 3 := many_long _ _ (by simp; omega)
              have HPZ := printR_zero (r := ⟨200, List.replicate j fX, List.replicate b 0⟩)
              unfold PrintRPost respV at HPRI
              rw [HPC] at HPRI HPZ
              obtain ⟨px, hpx⟩ : ∃ px, (printR ⟨200, List.replicate j fX, List.replicate b 0⟩).1 = px := ⟨_, rfl⟩
              rw [hpx] at HPRI HPZ
              simp only [List.length_replicate, List.length_set] at HPRI
              have hp0 : px = [] := HPZ (by decide)
              rw [hp0] at HPRI
              clear HPC HPZ hpx
              go_wp2_with fail
              refine HPRI.out.mono ?_
              rintro e u1 ⟨A3, c3, rfl, _, _, hb⟩
              have B5 := hideIt (below_then BW.out hb)
              have HK := hideIt (known10_any u1 (HPW.out.keep B5.out))
              clear hb d0 d1 d2 HPRI
              simp only [List.length_nil]
              go_wp2_with fail
              refine HK.out.mono ?_
              rintro e u2 ⟨rfl, hb⟩
              have B6 := hideIt (below_then B5.out hb)
              clear hb
              go_wp2_with fail
              go_ret
              exact ⟨rfl, B6.out⟩
          · have hk4i : ¬ (j : Int) ≤ 40 := by omega
            go_upto_region 10 with fail
            have d0 := HG.out.c0
            have d1 := HG.out.c1
            have d2 := HG.out.c2
            have HPRI := hideIt (rprint_any ⟨200, List.replicate j fX, List.replicate b 0⟩ (.slice vA j vc) (some ⟨w.heap.size, 0, none⟩) b _ ⟨HO.out.reads, PW.out⟩ (fun _ p hp => HSM.out p (HSB.out p hp)) (HPW.out.keep BW.out))
            have HPC : (printR ⟨200, List.replicate j fX, List.replicate b 0⟩).2 = 3 := many_long _ _ (by simp; omega)
            have HPZ := printR_zero (r := ⟨200, List.replicate j fX, List.replicate b 0⟩)
            unfold PrintRPost respV at HPRI
            rw [HPC] at HPRI HPZ
            obtain ⟨px, hpx⟩ : ∃ px, (printR ⟨200, List.replicate j fX, List.replicate b 0⟩).1 = px := ⟨_, rfl⟩
            rw [hpx] at HPRI HPZ
            simp only [List.length_replicate, List.length_set] at HPRI
            have hp0 : px = [] := HPZ (by decide)
            rw [hp0] at HPRI
            clear HPC HPZ hpx
            go_wp2_with fail
            refine HPRI.out.mono ?_
            rintro e u1 ⟨A3, c3, rfl, _, _, hb⟩
            have B5 := hideIt (below_then BW.out hb)
            have HK := hideIt (known10_any u1 (HPW.out.keep B5.out))
            clear hb d0 d1 d2 HPRI
            simp only [List.length_nil]
            go_wp2_with fail
            refine HK.out.mono ?_
            rintro e u2 ⟨rfl, hb⟩
            have B6 := hideIt (below_then B5.out hb)
            clear hb
            go_wp2_with fail
            go_ret
            exact ⟨rfl, B6.out⟩
        · have hk4 : j ≤ 40 := by omega
          have hk4i : (j : Int) ≤ 40 := by omega
          by_cases hb4 : b ≤ 4000
          · have hb4i : (b : Int) ≤ 4000 := by omega
            go_upto_region 10 with fail
            have d0 := HG.out.c0
            have d1 := HG.out.c1
            have d2 := HG.out.c2
            have HPRI := hideIt (rprint_any ⟨200, List.replicate j fX, List.replicate b 0⟩ (.slice vA j vc) (some ⟨w.heap.size, 0, none⟩) b _ ⟨HO.out.reads, PW.out⟩ (fun _ p hp => HSM.out p (HSB.out p hp)) (HPW.out.keep BW.out))
            have HPC : (printR ⟨200, List.replicate j fX, List.replicate b 0⟩).2 = 0 := many_ok j b hk4 hb4
            have HPZ := printR_zero (r := ⟨200, List.replicate j fX, List.replicate b 0⟩)
            unfold PrintRPost respV at HPRI
            rw [HPC] at HPRI HPZ
            obtain ⟨px, hpx⟩ : ∃ px, (printR ⟨200, List.replicate j fX, List.replicate b 0⟩).1 = px := ⟨_, rfl⟩
            rw [hpx] at HPRI HPZ
            simp only [List.length_replicate, List.length_set] at HPRI
            clear HPC HPZ hpx
            go_wp2_with fail
            refine HPRI.out.mono ?_
            rintro e u1 ⟨A3, c3, rfl, _, _, hb⟩
            have B5 := hideIt (below_then BW.out hb)
            have HK := hideIt (known10_any u1 (HPW.out.keep B5.out))
            clear hb d0 d1 d2 HPRI
            simp only [List.length_nil]
            go_wp2_with fail
            refine HK.out.mono ?_
            rintro e u2 ⟨rfl, hb⟩
            have B6 := hideIt (below_then B5.out hb)
            clear hb
            go_wp2_with fail
            go_ret
            exact ⟨rfl, B6.out⟩
          · have hb4i : ¬ (b : Int) ≤ 4000 := by omega
            go_upto_region 10 with fail
            have d0 := HG.out.c0
            have d1 := HG.out.c1
            have d2 := HG.out.c2
            have HPRI := hideIt (rprint_any ⟨200, List.replicate j fX, List.replicate b 0⟩ (.slice vA j vc) (some ⟨w.heap.size, 0, none⟩) b _ ⟨HO.out.reads, PW.out⟩ (fun _ p hp => HSM.out p (HSB.out p hp)) (HPW.out.keep BW.out))
            have HPC : (printR ⟨200, List.replicate j fX, List.replicate b 0⟩).2 = 3 := many_long _ _ (by simp; omega)
            have HPZ := printR_zero (r := ⟨200, List.replicate j fX, List.replicate b 0⟩)
            unfold PrintRPost respV at HPRI
            rw [HPC] at HPRI HPZ
            obtain ⟨px, hpx⟩ : ∃ px, (printR ⟨200, List.replicate j fX, List.replicate b 0⟩).1 = px := ⟨_, rfl⟩
            rw [hpx] at HPRI HPZ
            simp only [List.length_replicate, List.length_set] at HPRI
            have hp0 : px = [] := HPZ (by decide)
            rw [hp0] at HPRI
            clear HPC HPZ hpx
            go_wp2_with fail
            refine HPRI.out.mono ?_
            rintro e u1 ⟨A3, c3, rfl, _, _, hb⟩
            have B5 := hideIt (below_then BW.out hb)
            have HK := hideIt (known10_any u1 (HPW.out.keep B5.out))
            clear hb d0 d1 d2 HPRI
            simp only [List.length_nil]
            go_wp2_with fail
            refine HK.out.mono ?_
            rintro e u2 ⟨rfl, hb⟩
            have B6 := hideIt (below_then B5.out hb)
            clear hb
            go_wp2_with fail
            go_ret
            exact ⟨rfl, B6.out⟩
end Go.Proofs.YtolikoediafkkaaDoor
