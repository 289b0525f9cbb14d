/- The walk of HeadOrder. -/
import Derived.Test.YtfmkmgnaalkgoaaDoorHeadKnown
import Derived.Test.YtfmkmgnaalkgoaaDoorHeadPick
import Derived.Test.YtfmkmgnaalkgoaaDoorHeadAll
import Derived.Test.YtfmkmgnaalkgoaaDoorTwoRows
import Derived.Test.YtfmkmgnaalkgoaaDoorUtfLaid
namespace Go.Proofs.YtfmkmgnaalkgoaaDoor
open Go.ChangeShapes Go.WideShapes Go.ChangeAt Go.RowKit
set_option linter.unusedVariables false
set_option linter.unusedSimpArgs false

def ckS : List UInt8 := [67, 111, 111, 107, 105, 101, 115]
def ckN : List UInt8 := [99, 111, 111, 107, 105, 101]
def ordN (c : UInt8) : List UInt8 := if c.toNat % 3 = 0 then ckS else ckN
def ordP (bs : List UInt8) : Nat → List PairL
  | 0 => []
  | j + 1 => ordP bs j ++ [(ordN (bs.getD j 0), wordL (bs.drop j))]
def ordW (bs : List UInt8) : Nat → List (List UInt8)
  | 0 => []
  | j + 1 => ordW bs j ++ (if (bs.getD j 0).toNat % 3 = 0 then [] else [wordL (bs.drop j)])
theorem ordP_len (bs : List UInt8) (j : Nat) : (ordP bs j).length = j := by
  induction j with
  | zero => rfl
  | succ j ih => simp [ordP, ih]
theorem ordW_len (bs : List UInt8) (j : Nat) : (ordW bs j).length ≤ j := by
  induction j with
  | zero => simp [ordW]
  | succ j ih =>
    rw [ordW, List.length_append]
    split <;> simp <;> omega
theorem ordP_each (bs : List UInt8) (j : Nat) : ∀ x ∈ ordP bs j, x.1.length ≤ 30 ∧ x.2.length ≤ 30 := by
  induction j with
  | zero => simp [ordP]
  | succ j ih =>
    intro x hx
    rcases List.mem_append.1 hx with h | h
    · exact ih x h
    · simp at h
      subst h
      refine ⟨?_, wordL_len _⟩
      show (ordN (bs.getD j 0)).length ≤ 30
      unfold ordN
      split <;> decide
theorem all_app (a b : List PairL) (n : List UInt8) : allL (a ++ b) n = allL a n ++ allL b n := by simp [allL]
theorem ord_all (bs nm : List UInt8) (h1 : sameL ckS nm = false) (h2 : sameL ckN nm = true) (j : Nat) : allL (ordP bs j) nm = ordW bs j := by
  induction j with
  | zero => rfl
  | succ j ih =>
    rw [ordP, ordW, all_app, ih]
    congr 1
    unfold ordN
    split
    · simp [allL, h1]
    · simp [allL, h2]
theorem getD_at (bs : List UInt8) (j : Nat) (h : j < bs.length) : bs.getD j 0 = bs[j] := by simp [List.getD, h]
set_option maxRecDepth 8000 in
set_option maxHeartbeats 8000000 in
theorem headOrder_walk (a0 : Option Addr) (len0 cap0 : Nat) (z0 : List Int) (a1 : Bool) (w : World) (w0 : IsRow .u8 w a0 len0 cap0 z0) (hT : Tabs w) (r0 : cap0 ≤ 140737488355328) :
    Calls Tryd.prog 10 #[.slice a0 len0 cap0, .bool a1] w fun e w' => e = .returned (.bool true) ∧ Below w.heap.size w w' := by
  obtain ⟨_, _, hlc0, _⟩ := w0.bytes
  obtain ⟨bs, hl0, hnil, hp0⟩ := row_piece w0 (by omega)
  have HP := hideIt hp0
  have HN := hideIt hl0
  have HK := hideIt known8_any
  have HSL : Hid (∀ j, j < len0 → ∃ A1, (∀ w, (Instr.slice 24 (.slice a0 len0 cap0) (some (.int .i64 (j : Int))) none none).run Tryd.prog w = .ok (.slice A1 (len0 - j) (cap0 - j)) w) ∧
      ∀ w', Below w.heap.size w w' → Calls Tryd.prog 19 #[.slice A1 (len0 - j) (cap0 - j)] w' fun e w'' => e = .returned (.string (strOf (wordL (bs.drop j)))) ∧ Below w'.heap.size w' w'') := hideIt fun j hj => by
    obtain ⟨A1, h1, h2, h3, h4⟩ := slice_lo a0 len0 cap0 j (by omega) hlc0 hp0.nil
    refine ⟨A1, h1, fun w' hb => ?_⟩
    have hp' := hp0.keep hb
    exact word_any A1 (bs.drop j) (len0 - j) (cap0 - j) w' ⟨h2 w' _ bs hl0 hp'.bytes, by rw [List.length_drop, hl0]; show len0 - j ≤ cap0 - j; omega, by show cap0 - j ≤ _; omega, by rw [List.length_drop, hl0]; show len0 - j ≤ _; omega, fun h => h4 h⟩ (by rw [List.length_drop, hl0]) (by omega)
  clear hT w0 hp0 hl0
  go_enter Tryd.func10, Tryd.ntmps10
  go_wp2_with fail
  go_loopw [5, 6, 7] (fun lv wv i wr => ∃ j : Nat, j ≤ 30 ∧ j ≤ len0 ∧ i = .int .i64 (j : Int) ∧ POwn w.heap.size lv (ordP bs j) wr ∧ SOwn w.heap.size wv (ordW bs j) wr ∧ Below w.heap.size w wr) (fun lv wv i wr => 30 - (intOf i).toNat)
  case atStart => exact ⟨0, by omega, by omega, rfl, POwn.nil _ _, SOwn.nil _ _, Below.refl _ _⟩
  case round =>
    obtain ⟨j, hj30, hj, rfl, ho, hs, hb⟩ := hrel
    have HO := hideIt ho
    have HS := hideIt hs
    have HB := hideIt hb
    clear ho hs hb
    have hwj : IntKind.i64.wrap ((j : Int) + 1) = (j : Int) + 1 := IntWalk.i64_in _ (by omega)
    have hpl := ordP_len bs j
    have hwl := ordW_len bs j
    by_cases hgo : j < len0 ∧ j < 30
    · obtain ⟨h1, h2⟩ := hgo
      have h1' : (j : Int) < (len0 : Int) := by omega
      have h2' : (j : Int) < 30 := by omega
      have hjb : j < bs.length := by have := HN.out; omega
      obtain ⟨A1, hsl, hwd⟩ := HSL.out j h1
      have HWD := hideIt hwd
      have hg := getD_at bs j hjb
      obtain ⟨b, off, rfl, hbl, hcells⟩ := HP.out.bytes (by show 0 < bs.length; omega)
      have hcell : wr.cell? ⟨b, off + j, none⟩ = some (.int .u8 ((bs[j]).toNat : Int)) := (HB.out.cell hbl).trans (hcells j hjb)
      have hx : (bs[j]).toNat < 256 := (bs[j]).toNat_lt
      have hq : (bs[j]).toNat % 3 < 3 := Nat.mod_lt _ (by decide)
      have hmod : Int.tmod ((bs[j]).toNat : Int) 3 = (((bs[j]).toNat % 3 : Nat) : Int) := by rw [Int.tmod_eq_emod_of_nonneg (by omega)]; omega
      have hwq : IntKind.u8.wrap (((bs[j]).toNat % 3 : Nat) : Int) = (((bs[j]).toNat % 3 : Nat) : Int) := by rw [IntKind.wrap_u8']; omega
      have EP : Hid (ordP bs (j + 1) = ordP bs j ++ [(ordN bs[j], wordL (bs.drop j))]) := hideIt (by rw [ordP, hg])
      have EW : Hid (ordW bs (j + 1) = ordW bs j ++ (if (bs[j]).toNat % 3 = 0 then [] else [wordL (bs.drop j)])) := hideIt (by rw [ordW, hg])
      unfold ordN at EP
      clear hcells hwd hg HSL
      generalize hY : wordL (bs.drop j) = Y at *
      clear hY
      generalize ordP bs j = P at *
      generalize ordW bs j = T at *
      generalize len0 - j = m1 at *
      generalize cap0 - j = c1 at *
      by_cases h0 : (bs[j]).toNat % 3 = 0
      · rw [if_pos h0] at EP EW
        rw [h0] at hmod hwq
        clear h0 hq
        generalize (bs[j]).toNat = u at *
        go_wp2_with fail
        refine (HWD.out _ HB.out).mono ?_
        rintro e w2 ⟨rfl, hb⟩
        have B2 := hideIt (below_then HB.out hb)
        have O2 := hideIt (HO.out.keep hb)
        have S2 := hideIt (HS.out.keep hb)
        clear hb HB HO HS hcell
        go_wp2_with (at_builtin; refine wpList_appP2 rfl (.tmp 35) (.tmp 42) rfl w.heap.size _ P (ckS, Y) rfl O2.out _ T S2.out rfl (by omega) B2.out.size ?_)
        intro v4 w4 o4 s4 g4
        have O4 := hideIt o4
        have S4 := hideIt s4
        have B4 : Hid (Below w.heap.size w w4) := hideIt (B2.out.trans (g4 _ (Nat.le_refl _)))
        clear o4 s4 g4 O2 S2 B2
        go_wp2_with fail
        go_roundw
        case rel => exact ⟨j + 1, by omega, by omega, by go_num, by rw [EP.out]; exact O4.out, by rw [EW.out, List.append_nil]; exact S4.out, B4.out⟩
        case measure => simp [intOf]; omega
      · rw [if_neg h0] at EP EW
        have hne : ((((bs[j]).toNat % 3 : Nat) : Int) == 0) = false := by rw [beq_eq_false_iff_ne]; omega
        clear h0
        generalize (bs[j]).toNat % 3 = q at *
        generalize (bs[j]).toNat = u at *
        go_wp2_with fail
        refine (HWD.out _ HB.out).mono ?_
        rintro e w2 ⟨rfl, hb⟩
        have B2 := hideIt (below_then HB.out hb)
        have O2 := hideIt (HO.out.keep hb)
        have S2 := hideIt (HS.out.keep hb)
        clear hb HB HO HS hcell
        go_wp2_with (at_builtin; refine wpList_appT2 rfl (.tmp 28) (.tmp 33) rfl w.heap.size _ T Y rfl S2.out _ P O2.out rfl (by omega) B2.out.size ?_)
        intro v3 w3 s3 o3 g3
        have O3 := hideIt o3
        have S3 := hideIt s3
        have B3 : Hid (Below w.heap.size w w3) := hideIt (B2.out.trans (g3 _ (Nat.le_refl _)))
        clear o3 s3 g3 O2 S2 B2
        go_wp2_with fail
        refine (HWD.out _ B3.out).mono ?_
        rintro e w5 ⟨rfl, hb⟩
        have B5 := hideIt (below_then B3.out hb)
        have O5 := hideIt (O3.out.keep hb)
        have S5 := hideIt (S3.out.keep hb)
        clear hb B3 O3 S3
        go_wp2_with (at_builtin; refine wpList_appP2 rfl (.tmp 35) (.tmp 42) rfl w.heap.size _ P (ckN, Y) rfl O5.out _ (T ++ [Y]) S5.out rfl (by omega) B5.out.size ?_)
        intro v4 w4 o4 s4 g4
        have O4 := hideIt o4
        have S4 := hideIt s4
        have B4 : Hid (Below w.heap.size w w4) := hideIt (B5.out.trans (g4 _ (Nat.le_refl _)))
        clear o4 s4 g4 O5 S5 B5
        go_wp2_with fail
        go_roundw
        case rel => exact ⟨j + 1, by omega, by omega, by go_num, by rw [EP.out]; exact O4.out, by rw [EW.out]; exact S4.out, B4.out⟩
        case measure => simp [intOf]; omega
    · have hgo2 : ((j : Int) < (len0 : Int)) ∧ ¬ ((j : Int) < 30) ∨ ¬ ((j : Int) < (len0 : Int)) := by omega
      have HA : Hid (∀ nm : List UInt8, nm.length ≤ 10 → sameL ckS nm = false → sameL ckN nm = true → ∀ A c w', PairsAt w' A (ordP bs j) → j ≤ c → c ≤ 9223372036854775807 → Calls Tryd.prog 17 #[.slice A j c, .string (strOf nm)] w' fun e w'' => ∃ v, e = .returned v ∧ SOwn w'.heap.size v (ordW bs j) w'' ∧ Below w'.heap.size w' w'') := hideIt fun nm h1 h2 h3 A c w' hp h4 h5 => by
        have := hall_any A j c (ordP bs j) nm w' hp hpl (by omega) (by omega) (fun x hx => by have := ordP_each bs j x hx; omega) h4 h5
        rwa [ord_all bs nm h2 h3 j] at this
      obtain ⟨lA, lc, hlv, hlc, hlm, _, hpa⟩ := HO.out.open
      obtain ⟨wA, wc, hwv, hwc, hwm, hst⟩ := HS.out.open
      subst hlv hwv
      rw [hpl] at hlc
      have hlm2 : lc ≤ 9223372036854775807 := by unfold maxLen at hlm; omega
      have HPA := hideIt hpa
      have HST := hideIt hst
      have HA1 := hideIt (HA.out [67, 111, 111, 107, 105, 101] (by simp) (by decide +kernel) (by decide +kernel) lA lc wr HPA.out hlc hlm2)
      have HA2 := hideIt (HA.out [67, 79, 79, 75, 73, 69] (by simp) (by decide +kernel) (by decide +kernel) lA lc wr HPA.out hlc hlm2)
      clear HA hgo HSL hlm hpa hst HO HS
      rw [hpl]
      generalize ordP bs j = P at *
      generalize ordW bs j = T at *
      cases a1
      · rcases hgo2 with ⟨k1, k2⟩ | k1
        all_goals
          go_wp2_with fail
          refine HA1.out.mono ?_
          rintro e w2 ⟨gv, rfl, hso, hb⟩
          have B2 := hideIt (below_then HB.out hb)
          obtain ⟨gA, gc, hgv, hgc, hgm, hgt⟩ := hso.open
          subst hgv
          have HGT := hideIt hgt
          have HST2 := hideIt (HST.out.keep hb)
          clear hb hso hgt HA1 HA2 HPA HB HST
          go_wp2_with fail
          go_loopw [11] (fun i wr' => ∃ m : Nat, m ≤ T.length ∧ i = .int .i64 (m : Int) ∧ Below w2.heap.size w2 wr') (fun i wr' => T.length - (intOf i).toNat)
          case atStart => exact ⟨0, by omega, rfl, Below.refl _ _⟩
          case round =>
            obtain ⟨m, hm, rfl, hbm⟩ := hrel
            have HBM := hideIt hbm
            clear hbm
            have hwm' : IntKind.i64.wrap ((m : Int) + 1) = (m : Int) + 1 := IntWalk.i64_in _ (by omega)
            by_cases hlt : m < T.length
            · have hlt' : (m : Int) < (T.length : Int) := by omega
              obtain ⟨x, hx⟩ : ∃ x, T[m]? = some x := ⟨_, List.getElem?_eq_getElem hlt⟩
              obtain ⟨ga, rfl, la, ka⟩ := (HGT.out.keep HBM.out) (by omega)
              obtain ⟨wa, rfl, lb, kb⟩ := (HST2.out.keep HBM.out) (by omega)
              have q1 := ka m x hx
              have q2 := kb m x hx
              clear ka kb la lb hx
              go_wp2_with fail
              go_region
              go_wp2_with fail
              go_roundw
              case rel => exact ⟨m + 1, by omega, by go_num, HBM.out.drew⟩
              case measure => simp [intOf]; omega
            · obtain rfl : m = T.length := by omega
              have hlt' : ¬ (T.length : Int) < (T.length : Int) := by omega
              have B3 := hideIt (below_then B2.out HBM.out)
              clear HBM HGT HST2
              go_wp2_with fail
              refine (HK.out _).mono ?_
              rintro e w5 ⟨rfl, hb⟩
              have B4 := hideIt (below_then B3.out hb)
              clear hb HK
              go_wp2_with fail
              go_ret
              exact ⟨rfl, B4.out⟩
      · rcases hgo2 with ⟨k1, k2⟩ | k1
        all_goals
          go_wp2_with fail
          refine HA2.out.mono ?_
          rintro e w2 ⟨gv, rfl, hso, hb⟩
          have B2 := hideIt (below_then HB.out hb)
          obtain ⟨gA, gc, hgv, hgc, hgm, hgt⟩ := hso.open
          subst hgv
          have HGT := hideIt hgt
          have HST2 := hideIt (HST.out.keep hb)
          clear hb hso hgt HA1 HA2 HPA HB HST
          go_wp2_with fail
          go_loopw [11] (fun i wr' => ∃ m : Nat, m ≤ T.length ∧ i = .int .i64 (m : Int) ∧ Below w2.heap.size w2 wr') (fun i wr' => T.length - (intOf i).toNat)
          case atStart => exact ⟨0, by omega, rfl, Below.refl _ _⟩
          case round =>
            obtain ⟨m, hm, rfl, hbm⟩ := hrel
            have HBM := hideIt hbm
            clear hbm
            have hwm' : IntKind.i64.wrap ((m : Int) + 1) = (m : Int) + 1 := IntWalk.i64_in _ (by omega)
            by_cases hlt : m < T.length
            · have hlt' : (m : Int) < (T.length : Int) := by omega
              obtain ⟨x, hx⟩ : ∃ x, T[m]? = some x := ⟨_, List.getElem?_eq_getElem hlt⟩
              obtain ⟨ga, rfl, la, ka⟩ := (HGT.out.keep HBM.out) (by omega)
              obtain ⟨wa, rfl, lb, kb⟩ := (HST2.out.keep HBM.out) (by omega)
              have q1 := ka m x hx
              have q2 := kb m x hx
              clear ka kb la lb hx
              go_wp2_with fail
              go_region
              go_wp2_with fail
              go_roundw
              case rel => exact ⟨m + 1, by omega, by go_num, HBM.out.drew⟩
              case measure => simp [intOf]; omega
            · obtain rfl : m = T.length := by omega
              have hlt' : ¬ (T.length : Int) < (T.length : Int) := by omega
              have B3 := hideIt (below_then B2.out HBM.out)
              clear HBM HGT HST2
              go_wp2_with fail
              refine (HK.out _).mono ?_
              rintro e w5 ⟨rfl, hb⟩
              have B4 := hideIt (below_then B3.out hb)
              clear hb HK
              go_wp2_with fail
              go_ret
              exact ⟨rfl, B4.out⟩
end Go.Proofs.YtfmkmgnaalkgoaaDoor
