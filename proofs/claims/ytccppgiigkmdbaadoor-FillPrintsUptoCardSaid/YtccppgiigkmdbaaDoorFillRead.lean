/- Contracts of the methods of fill.reader, and of fill.stays. -/
import Derived.Test.YtccppgiigkmdbaaDoorBuilderB
import Derived.Test.YtccppgiigkmdbaaDoorFillPlain
import Derived.Test.YtccppgiigkmdbaaDoorStrRun
import Derived.Test.YtccppgiigkmdbaaDoorCmp
namespace Go.Proofs.YtccppgiigkmdbaaDoor
open Go.ChangeShapes Go.WideShapes Go.ChangeAt Go.RowKit
set_option linter.unusedVariables false
set_option linter.unusedSimpArgs false

/-- a reader, in block g, of these bytes: k of them are read -/
def Rd (g : Nat) (l : List UInt8) (k : Nat) (w : World) : Prop := w.heap[g]? = some (.cells #[.string (strOf l), .int .i64 (k : Int)] 56 (0, 0))
theorem Rd.lt {g : Nat} {l : List UInt8} {k : Nat} {w : World} (h : Rd g l k w) : g < w.heap.size := (Array.getElem?_eq_some_iff.1 h).1
theorem Rd.c0 {g : Nat} {l : List UInt8} {k : Nat} {w : World} (h : Rd g l k w) : w.cell? ⟨g, 0, none⟩ = some (.string (strOf l)) := by rw [cell_of_row w _ _ _ _ _ h]; rfl
theorem Rd.c1 {g : Nat} {l : List UInt8} {k : Nat} {w : World} (h : Rd g l k w) : w.cell? ⟨g, 1, none⟩ = some (.int .i64 (k : Int)) := by rw [cell_of_row w _ _ _ _ _ h]; rfl
theorem Rd.fz {g : Nat} {l : List UInt8} {k : Nat} {w : World} (h : Rd g l k w) (i : Nat) : w.frozen? ⟨g, i, none⟩ = false := Lib.frozen_of_heap h i
theorem Rd.step {g : Nat} {l : List UInt8} {k : Nat} {w : World} (h : Rd g l k w) (j : Nat) : Rd g l j (w.setCell ⟨g, 1, none⟩ (.int .i64 (j : Int))) := by
  have := heap_setCell_same w g 1 _ _ (.int .i64 (j : Int)) h
  simpa [Rd] using this
theorem Rd.keep {g : Nat} {l : List UInt8} {k : Nat} {w w' : World} (h : Rd g l k w) (hb : w'.heap[g]? = w.heap[g]?) : Rd g l k w' := hb.trans h
theorem grown_cell (w : World) (g i : Nat) (v : Value) : w.grownBy (w.setCell ⟨g, i, none⟩ v) (some g) :=
  ⟨rfl, rfl, rfl, by simp [World.setCell], fun k hk hne => heap_setCell_other _ _ _ _ (by simpa using hne)⟩
theorem grown_refl (w : World) (r : Option Nat) : w.grownBy w r := ⟨rfl, rfl, rfl, Nat.le_refl _, fun _ _ _ => rfl⟩
set_option maxHeartbeats 1000000 in
theorem next_end (g : Nat) (l : List UInt8) (w : World) (h : Rd g l l.length w) :
    Calls Tryd.prog 29 #[.pointer (some ⟨g, 0, none⟩)] w fun e w' => e = .returned (.tuple #[.int .u8 0, .bool false]) ∧ Rd g l l.length w' ∧ w.grownBy w' (some g) := by
  have c0 := h.c0
  have c1 := h.c1
  have H := hideIt h
  have hsz := strOf_size l
  clear h
  rw [← hsz] at c1
  have HS := hideIt hsz
  clear hsz
  go_enter Tryd.func29, Tryd.ntmps29
  go_wp2
  go_region
  go_wp2
  go_ret2
  exact ⟨rfl, H.out, grown_drew (grown_refl _ _)⟩
set_option maxHeartbeats 1000000 in
theorem next_any (g : Nat) (l : List UInt8) (k : Nat) (w : World) (h : Rd g l k w) (hk : k < l.length) (hl : l.length ≤ 1000000000) :
    Calls Tryd.prog 29 #[.pointer (some ⟨g, 0, none⟩)] w fun e w' => e = .returned (.tuple #[.int .u8 ((l[k]).toNat : Int), .bool true]) ∧ Rd g l (k + 1) w' ∧ w.grownBy w' (some g) := by
  have c0 := h.c0
  have c1 := h.c1
  have fz := h.fz 1
  have hsz := strOf_size l
  have hix : ∀ w', (Instr.index 9 (.string (strOf l)) (.int .i64 (k : Int))).run Tryd.prog w' = .ok (.int .u8 ((l[k]).toNat : Int)) w' := fun w' => run_index_str w' l .i64 k hk
  have H := hideIt (h.step (k + 1))
  have G := hideIt (grown_cell w g 1 (.int .i64 ((k + 1 : Nat) : Int)))
  clear h
  generalize (l[k]).toNat = x at *
  have hn : ((k : Int) == ((strOf l).size : Int)) = false := by
    rw [hsz]
    have : (k : Int) ≠ (l.length : Int) := by omega
    simpa using this
  have HL := hideIt hsz
  rw [← hsz] at hk hl
  have e1 : IntKind.i64.wrap ((k : Int) + 1) = ((k + 1 : Nat) : Int) := by
    rw [show ((k : Int) + 1) = ((k + 1 : Nat) : Int) by omega, IntKind.wrap_i64]; omega
  clear hsz
  go_enter Tryd.func29, Tryd.ntmps29
  go_wp2
  go_region
  go_wp2
  go_region
  go_wp2
  go_ret2
  exact ⟨rfl, H.out, grown_drew (grown_drew G.out)⟩

/-- the byte that is next; nought, if there is none -/
theorem next_all (g : Nat) (l : List UInt8) (k : Nat) (w : World) (h : Rd g l k w) (hk : k ≤ l.length) (hl : l.length ≤ 1000000000) :
    Calls Tryd.prog 29 #[.pointer (some ⟨g, 0, none⟩)] w fun e w' => e = .returned (.tuple #[.int .u8 ((l.getD k 0).toNat : Int), .bool (decide (k < l.length))]) ∧ Rd g l (min (k + 1) l.length) w' ∧ w.grownBy w' (some g) := by
  by_cases hlt : k < l.length
  · have e : l.getD k 0 = l[k] := by simp [List.getD, hlt]
    rw [e, show min (k + 1) l.length = k + 1 by omega, decide_eq_true hlt]
    exact next_any g l k w h hlt hl
  · obtain rfl : k = l.length := by omega
    rw [show min (l.length + 1) l.length = l.length by omega, decide_eq_false hlt]
    have e : l.getD l.length 0 = 0 := by simp [List.getD]
    rw [e]
    exact next_end g l w h
/-- what the next byte stands for as a digit -/
def digAt (l : List UInt8) (k : Nat) : Option Nat := hexU (l.getD k 0)
theorem digAt_end (l : List UInt8) (k : Nat) (h : l.length ≤ k) : digAt l k = none := by
  unfold digAt
  have : l.getD k 0 = 0 := by simp [List.getD, List.getElem?_eq_none h]
  rw [this]; decide
def HX (x : Nat) : Option Nat := if 48 ≤ x ∧ x ≤ 57 then some (x - 48) else if 97 ≤ x ∧ x ≤ 102 then some (x - 87) else if 65 ≤ x ∧ x ≤ 70 then some (x - 55) else none
theorem digAt_is (l : List UInt8) (k : Nat) : digAt l k = HX (l.getD k 0).toNat := rfl
set_option maxRecDepth 8000 in
set_option maxHeartbeats 1000000 in
theorem digit_any (g : Nat) (l : List UInt8) (k : Nat) (w : World) (h : Rd g l k w) (hk : k ≤ l.length) (hl : l.length ≤ 1000000000) :
    Calls Tryd.prog 40 #[.pointer (some ⟨g, 0, none⟩)] w fun e w' => e = .returned (.tuple #[.int .u8 (((digAt l k).getD 0 : Nat) : Int), .bool (digAt l k).isSome]) ∧ Rd g l (min (k + 1) l.length) w' ∧ w.grownBy w' (some g) := by
  have HN := hideIt (next_all g l k w h hk hl)
  clear h
  rw [digAt_is]
  have hx := (l.getD k 0).toNat_lt
  generalize (l.getD k 0).toNat = x at *
  generalize min (k + 1) l.length = k2 at *
  generalize decide (k < l.length) = b at *
  clear hk hl
  have hxi : (x : Int) < 256 := by omega
  have hx0 : (0 : Int) ≤ (x : Int) := by omega
  by_cases d0 : x < 48
  · have n0 : 0 ≤ x := by omega
    have n1 : x < 48 := d0
    clear d0
    have g48 : (x : Int) < 48 := by omega
    have g97 : (x : Int) < 97 := by omega
    have g65 : (x : Int) < 65 := by omega
    have g57 : (x : Int) ≤ 57 := by omega
    have g102 : (x : Int) ≤ 102 := by omega
    have g70 : (x : Int) ≤ 70 := by omega
    have e0 : HX x = none := by unfold HX; rw [if_neg (by omega), if_neg (by omega), if_neg (by omega)]
    rw [e0]
    clear e0
    clear n0 n1
    go_enter Tryd.func40, Tryd.ntmps40
    go_wp2_with fail
    refine HN.out.mono ?_
    rintro e w2 ⟨rfl, hr, hg⟩
    have HR := hideIt hr
    have HG := hideIt hg
    clear hr hg
    go_wp2
    go_ret2
    exact ⟨rfl, HR.out, HG.out⟩
  · by_cases d1 : x < 58
    · have n0 : 48 ≤ x := by omega
      have n1 : x < 58 := d1
      clear d1
      clear d0
      have g48 : (48 : Int) ≤ (x : Int) := by omega
      have g97 : (x : Int) < 97 := by omega
      have g65 : (x : Int) < 65 := by omega
      have g57 : (x : Int) ≤ 57 := by omega
      have g102 : (x : Int) ≤ 102 := by omega
      have g70 : (x : Int) ≤ 70 := by omega
      have e0 : HX x = some (x - 48) := by unfold HX; rw [if_pos (by omega)]
      rw [e0]
      clear e0
      have e1 : IntKind.u8.wrap ((x : Int) - 48) = ((x - 48 : Nat) : Int) := by rw [IntKind.wrap_u8]; omega
      generalize x - 48 = y at *
      clear n0 n1
      go_enter Tryd.func40, Tryd.ntmps40
      go_wp2_with fail
      refine HN.out.mono ?_
      rintro e w2 ⟨rfl, hr, hg⟩
      have HR := hideIt hr
      have HG := hideIt hg
      clear hr hg
      go_wp2
      go_ret2
      exact ⟨rfl, HR.out, HG.out⟩
    · by_cases d2 : x < 65
      · have n0 : 58 ≤ x := by omega
        have n1 : x < 65 := d2
        clear d2
        clear d0
        clear d1
        have g48 : (48 : Int) ≤ (x : Int) := by omega
        have g97 : (x : Int) < 97 := by omega
        have g65 : (x : Int) < 65 := by omega
        have g57 : (57 : Int) < (x : Int) := by omega
        have g102 : (x : Int) ≤ 102 := by omega
        have g70 : (x : Int) ≤ 70 := by omega
        have e0 : HX x = none := by unfold HX; rw [if_neg (by omega), if_neg (by omega), if_neg (by omega)]
        rw [e0]
        clear e0
        clear n0 n1
        go_enter Tryd.func40, Tryd.ntmps40
        go_wp2_with fail
        refine HN.out.mono ?_
        rintro e w2 ⟨rfl, hr, hg⟩
        have HR := hideIt hr
        have HG := hideIt hg
        clear hr hg
        go_wp2
        go_ret2
        exact ⟨rfl, HR.out, HG.out⟩
      · by_cases d3 : x < 71
        · have n0 : 65 ≤ x := by omega
          have n1 : x < 71 := d3
          clear d3
          clear d0
          clear d1
          clear d2
          have g48 : (48 : Int) ≤ (x : Int) := by omega
          have g97 : (x : Int) < 97 := by omega
          have g65 : (65 : Int) ≤ (x : Int) := by omega
          have g57 : (57 : Int) < (x : Int) := by omega
          have g102 : (x : Int) ≤ 102 := by omega
          have g70 : (x : Int) ≤ 70 := by omega
          have e0 : HX x = some (x - 55) := by unfold HX; rw [if_neg (by omega), if_neg (by omega), if_pos (by omega)]
          rw [e0]
          clear e0
          have e2 : IntKind.u8.wrap ((x : Int) - 65) = (x : Int) - 65 := by rw [IntKind.wrap_u8]; omega
          have e1 : IntKind.u8.wrap ((x : Int) - 65 + 10) = ((x - 55 : Nat) : Int) := by rw [IntKind.wrap_u8]; omega
          generalize x - 55 = y at *
          clear n0 n1
          go_enter Tryd.func40, Tryd.ntmps40
          go_wp2_with fail
          refine HN.out.mono ?_
          rintro e w2 ⟨rfl, hr, hg⟩
          have HR := hideIt hr
          have HG := hideIt hg
          clear hr hg
          go_wp2
          go_ret2
          exact ⟨rfl, HR.out, HG.out⟩
        · by_cases d4 : x < 97
          · have n0 : 71 ≤ x := by omega
            have n1 : x < 97 := d4
            clear d4
            clear d0
            clear d1
            clear d2
            clear d3
            have g48 : (48 : Int) ≤ (x : Int) := by omega
            have g97 : (x : Int) < 97 := by omega
            have g65 : (65 : Int) ≤ (x : Int) := by omega
            have g57 : (57 : Int) < (x : Int) := by omega
            have g102 : (x : Int) ≤ 102 := by omega
            have g70 : (70 : Int) < (x : Int) := by omega
            have e0 : HX x = none := by unfold HX; rw [if_neg (by omega), if_neg (by omega), if_neg (by omega)]
            rw [e0]
            clear e0
            clear n0 n1
            go_enter Tryd.func40, Tryd.ntmps40
            go_wp2_with fail
            refine HN.out.mono ?_
            rintro e w2 ⟨rfl, hr, hg⟩
            have HR := hideIt hr
            have HG := hideIt hg
            clear hr hg
            go_wp2
            go_ret2
            exact ⟨rfl, HR.out, HG.out⟩
          · by_cases d5 : x < 103
            · have n0 : 97 ≤ x := by omega
              have n1 : x < 103 := d5
              clear d5
              clear d0
              clear d1
              clear d2
              clear d3
              clear d4
              have g48 : (48 : Int) ≤ (x : Int) := by omega
              have g97 : (97 : Int) ≤ (x : Int) := by omega
              have g65 : (65 : Int) ≤ (x : Int) := by omega
              have g57 : (57 : Int) < (x : Int) := by omega
              have g102 : (x : Int) ≤ 102 := by omega
              have g70 : (70 : Int) < (x : Int) := by omega
              have e0 : HX x = some (x - 87) := by unfold HX; rw [if_neg (by omega), if_pos (by omega)]
              rw [e0]
              clear e0
              have e2 : IntKind.u8.wrap ((x : Int) - 97) = (x : Int) - 97 := by rw [IntKind.wrap_u8]; omega
              have e1 : IntKind.u8.wrap ((x : Int) - 97 + 10) = ((x - 87 : Nat) : Int) := by rw [IntKind.wrap_u8]; omega
              generalize x - 87 = y at *
              clear n0 n1
              go_enter Tryd.func40, Tryd.ntmps40
              go_wp2_with fail
              refine HN.out.mono ?_
              rintro e w2 ⟨rfl, hr, hg⟩
              have HR := hideIt hr
              have HG := hideIt hg
              clear hr hg
              go_wp2
              go_ret2
              exact ⟨rfl, HR.out, HG.out⟩
            · have n0 : 103 ≤ x := by omega
              have n1 : x < 256 := hx
              clear d0
              clear d1
              clear d2
              clear d3
              clear d4
              clear d5
              have g48 : (48 : Int) ≤ (x : Int) := by omega
              have g97 : (97 : Int) ≤ (x : Int) := by omega
              have g65 : (65 : Int) ≤ (x : Int) := by omega
              have g57 : (57 : Int) < (x : Int) := by omega
              have g102 : (102 : Int) < (x : Int) := by omega
              have g70 : (70 : Int) < (x : Int) := by omega
              have e0 : HX x = none := by unfold HX; rw [if_neg (by omega), if_neg (by omega), if_neg (by omega)]
              rw [e0]
              clear e0
              clear n0 n1
              go_enter Tryd.func40, Tryd.ntmps40
              go_wp2_with fail
              refine HN.out.mono ?_
              rintro e w2 ⟨rfl, hr, hg⟩
              have HR := hideIt hr
              have HG := hideIt hg
              clear hr hg
              go_wp2
              go_ret2
              exact ⟨rfl, HR.out, HG.out⟩
theorem go_digit : goFn Tryd.prog 40 = true := by kernel_rfl
theorem digAt_lt (l : List UInt8) (k : Nat) : (digAt l k).getD 0 < 16 := by
  cases h : digAt l k with
  | none => decide
  | some n => exact hexU_lt h
theorem join4 (x y : Nat) (hx : x < 16) (hy : y < 16) : bits .or .u8 ((x : Int) * 16 % 256) (y : Int) = ((16 * x + y : Nat) : Int) := by
  have : ∀ a b : Fin 16, bits .or .u8 ((a.val : Int) * 16 % 256) (b.val : Int) = ((16 * a.val + b.val : Nat) : Int) := by decide +kernel
  exact this ⟨x, hx⟩ ⟨y, hy⟩
set_option maxHeartbeats 1000000 in
theorem escaped_any' (g : Nat) (l : List UInt8) (k : Nat) (w : World) (h : Rd g l k w) (hk : k ≤ l.length) (hl : l.length ≤ 1000000000) :
    Calls Tryd.prog 33 #[.pointer (some ⟨g, 0, none⟩)] w fun e w' => e = .returned (.tuple #[.int .u8 ((16 * (digAt l k).getD 0 + (digAt l (min (k + 1) l.length)).getD 0 : Nat) : Int), .bool ((digAt l k).isSome && (digAt l (min (k + 1) l.length)).isSome)]) ∧ Rd g l (min (min (k + 1) l.length + 1) l.length) w' ∧ w.grownBy w' (some g) := by
  have HN := hideIt (digit_any g l k w h hk hl)
  have HM := hideIt (fun w' h' => digit_any g l (min (k + 1) l.length) w' h' (by omega) hl)
  clear h
  have b1 := digAt_lt l k
  have b2 := digAt_lt l (min (k + 1) l.length)
  generalize (digAt l k).isSome = p at *
  generalize (digAt l (min (k + 1) l.length)).isSome = q at *
  generalize (digAt l k).getD 0 = x at *
  generalize (digAt l (min (k + 1) l.length)).getD 0 = y at *
  have HJ := join4 x y b1 b2
  generalize min (min (k + 1) l.length + 1) l.length = k3 at *
  generalize min (k + 1) l.length = k2 at *
  clear hk hl b1 b2
  generalize 16 * x + y = z at *
  cases p
  all_goals
    go_enter Tryd.func33, Tryd.ntmps33
    go_wp2_with fail
    refine HN.out.mono ?_
    rintro e w2 ⟨rfl, hr, hg⟩
    have HG := hideIt hg
    have HM2 := hideIt (HM.out w2 hr)
    clear hr hg
    go_wp2_with fail
    refine HM2.out.mono ?_
    rintro e w3 ⟨rfl, hr, hg⟩
    have HR := hideIt hr
    have HG2 := hideIt (grown_then HG.out hg)
    clear hr hg
    go_wp2
    go_ret2
    exact ⟨rfl, HR.out, HG2.out⟩
end Go.Proofs.YtccppgiigkmdbaaDoor
