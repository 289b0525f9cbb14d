/- Contract of the reference's Lines. -/
import Derived.Test.YtolikoediafkkaaDoorHttpPlain
import Derived.Test.YtolikoediafkkaaDoorTexts
import Derived.Test.YtolikoediafkkaaDoorStrFacts
import Derived.Test.YtolikoediafkkaaDoorCmp
namespace Go.Proofs.YtolikoediafkkaaDoor
open Go.ChangeShapes Go.WideShapes Go.ChangeAt Go.RowKit
set_option linter.unusedVariables false
set_option linter.unusedSimpArgs false

/-- the lines, where they end, and whether they do -/
def linesT (bs : List UInt8) : List (List UInt8) × Nat × Bool := match linesL bs with | none => ([], 0, false) | some z => (z.1, bs.length - z.2.length, true)
def hitB (bs : List UInt8) (j : Nat) : Bool := crlf.isPrefixOf (bs.drop j)
theorem hit_is (bs : List UInt8) (j : Nat) (h : j + 1 < bs.length) : hitB bs j = (decide (bs[j] = 13) && decide (bs[j + 1] = 10)) := by
  unfold hitB
  rw [List.drop_eq_getElem_cons (show j < bs.length by omega), List.drop_eq_getElem_cons h]
  simp only [crlf, List.isPrefixOf, Bool.and_true]
  have e : ∀ a b : UInt8, (a == b) = decide (b = a) := fun a b => by
    by_cases h : a = b
    · subst h; simp
    · have : ¬ b = a := fun e => h e.symm
      simp [h, this]
  rw [e, e]
theorem hit_past (bs : List UInt8) (j : Nat) (h : bs.length ≤ j + 1) : hitB bs j = false := by
  unfold hitB
  cases hp : crlf.isPrefixOf (bs.drop j)
  · rfl
  · have := (List.isPrefixOf_iff_prefix.1 hp).length_le
    simp [crlf] at this
    omega
structure LSt (bs : List UInt8) (i fr : Nat) (out : List (List UInt8)) : Prop where
  le : fr ≤ i + 1
  fl : fr ≤ bs.length
  no : ∀ j, fr ≤ j → j < i → hitB bs j = false
  eq : linesL bs = (linesL (bs.drop fr)).map fun z => (out ++ z.1, z.2)
  few : out.length ≤ fr
theorem LSt.start (bs : List UInt8) : LSt bs 0 0 [] := ⟨by omega, by omega, fun j _ h => by omega, by cases h : linesL bs <;> simp [h], by simp⟩
theorem LSt.miss {bs : List UInt8} {i fr : Nat} {out : List (List UInt8)} (h : LSt bs i fr out) (hm : i < fr ∨ hitB bs i = false) : LSt bs (i + 1) fr out :=
  ⟨by have := h.le; omega, h.fl, fun j h1 h2 => by
    by_cases hj : j < i
    · exact h.no j h1 hj
    · obtain rfl : j = i := by omega
      rcases hm with hm | hm
      · omega
      · exact hm, h.eq, h.few⟩
theorem LSt.cut {bs : List UInt8} {i fr : Nat} {out : List (List UInt8)} (h : LSt bs i fr out) (hf : fr ≤ i) (hh : hitB bs i = true) : cutS crlf (bs.drop fr) = some ((bs.drop fr).take (i - fr), bs.drop (i + 2)) := by
  have := cut_first (sep := crlf) (by simp [crlf]) (l := bs.drop fr) (i := i - fr) (fun j hj => by
    have := h.no (fr + j) (by omega) (by omega)
    unfold hitB at this
    rwa [List.drop_drop]) (by
    unfold hitB at hh
    rw [List.drop_drop, show fr + (i - fr) = i by omega]
    exact hh)
  rw [this, List.drop_drop]
  simp only [crlf, List.length_cons, List.length_nil]
  rw [show fr + (i - fr + (0 + 1 + 1)) = i + 2 by omega]
theorem hit_room {bs : List UInt8} {i : Nat} (hh : hitB bs i = true) : i + 2 ≤ bs.length := by
  rcases Nat.lt_or_ge bs.length (i + 2) with h | h
  · rw [hit_past bs i (by omega)] at hh
    cases hh
  · exact h
theorem LSt.hit {bs : List UInt8} {i fr : Nat} {out : List (List UInt8)} (h : LSt bs i fr out) (hf : fr < i) (hh : hitB bs i = true) : LSt bs (i + 1) (i + 2) (out ++ [(bs.drop fr).take (i - fr)]) := by
  have hr := hit_room hh
  have hc := h.cut (by omega) hh
  have hne : (bs.drop fr).take (i - fr) ≠ [] := by
    intro e
    have := congrArg List.length e
    simp at this
    omega
  refine ⟨by omega, hr, fun j h1 h2 => by omega, ?_, by have := h.few; simp; omega⟩
  rw [h.eq, lines_step hc hne]
  cases linesL (bs.drop (i + 2)) <;> simp
theorem LSt.stop {bs : List UInt8} {i : Nat} {out : List (List UInt8)} (h : LSt bs i i out) (hh : hitB bs i = true) : linesT bs = (out, i + 2, true) := by
  have hr := hit_room hh
  have hc := h.cut (Nat.le_refl _) hh
  rw [Nat.sub_self, List.take_zero] at hc
  have e := h.eq
  rw [lines_end hc] at e
  unfold linesT
  rw [e]
  simp
  omega
theorem LSt.none {bs : List UInt8} {i fr : Nat} {out : List (List UInt8)} (h : LSt bs i fr out) (hi : bs.length ≤ i + 1) : linesT bs = ([], 0, false) := by
  have hc : cutS crlf (bs.drop fr) = Option.none := cut_none fun j hj => by
    have : hitB bs (fr + j) = false := by
      by_cases hji : fr + j < i
      · exact h.no _ (by omega) hji
      · exact hit_past _ _ (by omega)
    unfold hitB at this
    rwa [List.drop_drop]
  have e := h.eq
  rw [lines_none hc] at e
  unfold linesT
  rw [e]
  rfl
set_option maxRecDepth 8000 in
set_option maxHeartbeats 4000000 in
theorem reflines_any (A : Option Addr) (bs : List UInt8) (n c : Nat) (w : World) (hp : PieceOk w ⟨A, c, bs⟩) (hn : bs.length = n) (hl : n ≤ 100000) :
    Calls Tryd.prog 40 #[.slice A n c] w fun e w' => ∃ v, e = .returned (.tuple #[v, .int .i64 ((linesT bs).2.1 : Int), .bool (linesT bs).2.2]) ∧ SOwn w.heap.size v (linesT bs).1 w' ∧ Below w.heap.size w w' := by
  subst hn
  have HP := hideIt hp
  have hfit := hp.fits
  simp only at hfit
  have hnil := hp.nil
  simp only at hnil
  clear hp
  obtain ⟨RR, hRR⟩ : ∃ R, linesT bs = R := ⟨_, rfl⟩
  have HR := hideIt hRR
  rw [hRR]
  clear hRR
  go_enter Tryd.func40, Tryd.ntmps40
  go_wp2
  go_loopw [5, 6, 7] (fun v fv iv wr => ∃ (i fr : Nat) (out : List (List UInt8)), i ≤ bs.length ∧ iv = .int .i64 (i : Int) ∧ fv = .int .i64 (fr : Int) ∧ SOwn w.heap.size v out wr ∧ LSt bs i fr out ∧ Below w.heap.size w wr) (fun _ _ i _ => bs.length - (intOf i).toNat)
  case atStart => exact ⟨0, 0, [], by omega, rfl, rfl, SOwn.nil _ _, LSt.start bs, Below.refl _ _⟩
  case round =>
    obtain ⟨i, fr, out, hi, rfl, rfl, ho, hst, hb⟩ := hrel
    have HO := hideIt ho
    have HS := hideIt hst
    have HB := hideIt hb
    clear ho hst hb
    have hfl := HS.out.fl
    have hfw := HS.out.few
    have hwi : IntKind.i64.wrap ((i : Int) + 1) = ((i + 1 : Nat) : Int) := by rw [show ((i : Int) + 1) = ((i + 1 : Nat) : Int) by omega]; exact IntWalk.i64_in _ (by omega)
    by_cases hlt : i + 1 < bs.length
    · have hlt' : ((i + 1 : Nat) : Int) < (bs.length : Int) := by omega
      have hid : (i : Int) < (bs.length : Int) := by omega
      obtain ⟨b, off, rfl, hbl, hcells⟩ := HP.out.bytes (by show 0 < bs.length; omega)
      have k1 : wr.cell? ⟨b, off + i, none⟩ = some (.int .u8 ((bs[i]).toNat : Int)) := (HB.out.cell hbl).trans (hcells i (by simp only; omega))
      have k2 : wr.cell? ⟨b, off + (i + 1), none⟩ = some (.int .u8 ((bs[i + 1]).toNat : Int)) := (HB.out.cell hbl).trans (hcells (i + 1) (by simp only; omega))
      have HH := hideIt (hit_is bs i hlt)
      clear hcells
      by_cases h13 : bs[i] = 13
      · have q1 : ((((bs[i]).toNat : Nat) : Int) != 13) = false := by rw [h13]; rfl
        by_cases h10 : bs[i + 1] = 10
        · have q2 : ((((bs[i + 1]).toNat : Nat) : Int) != 10) = false := by rw [h10]; rfl
          have HIT : Hid (hitB bs i = true) := hideIt (by rw [HH.out, h13, h10]; rfl)
          clear h13 h10
          generalize ((bs[i]).toNat : Int) = x1 at *
          generalize ((bs[i + 1]).toNat : Int) = x2 at *
          by_cases hlf : i < fr
          · have hlf' : (i : Int) < (fr : Int) := by omega
            have S2 := hideIt (HS.out.miss (.inl hlf))
            go_wp2_with fail
            go_roundw
            case rel => exact ⟨i + 1, fr, out, by omega, rfl, rfl, HO.out, S2.out, HB.out⟩
            case measure => simp [intOf]; omega
          · have hlf' : ¬ (i : Int) < (fr : Int) := by omega
            by_cases heq : i = fr
            · subst heq
              have E := hideIt (HS.out.stop HIT.out)
              have hw2 : IntKind.i64.wrap ((i : Int) + 2) = ((i + 2 : Nat) : Int) := by rw [show ((i : Int) + 2) = ((i + 2 : Nat) : Int) by omega]; exact IntWalk.i64_in _ (by omega)
              go_wp2_with fail
              go_ret3
              have e := HR.out.symm.trans E.out
              exact ⟨_, by rw [e]; rfl, by rw [e]; exact HO.out, HB.out⟩
            · have hne : ((i : Int) == (fr : Int)) = false := by rw [beq_eq_false_iff_ne]; omega
              have hlo : fr < i := by omega
              obtain ⟨A1, hsl, hpc, _⟩ := slice_any (some ⟨b, off, none⟩) bs.length c fr i (by omega) (by omega) hfit hnil
              obtain ⟨y, hy⟩ : ∃ y, (bs.drop fr).take (i - fr) = y := ⟨_, rfl⟩
              have hyl : y.length = i - fr := by rw [← hy]; simp; omega
              have S2 := hideIt (HS.out.hit hlo HIT.out)
              rw [hy] at S2
              have hb1 : BytesAt wr wr.heap.size A1 y := by
                have := hpc wr wr.heap.size bs rfl (HP.out.keep HB.out).bytes
                rwa [hy] at this
              have hcv := conv_bytes A1 y (i - fr) (c - fr) wr.heap.size wr hb1 hyl
              have hw2 : IntKind.i64.wrap ((i : Int) + 2) = ((i + 2 : Nat) : Int) := by rw [show ((i : Int) + 2) = ((i + 2 : Nat) : Int) by omega]; exact IntWalk.i64_in _ (by omega)
              have hot : Hid (out.length ≤ 200000) := hideIt (by omega)
              clear hpc hb1 hy heq
              go_wp2_with (at_builtin; refine wpList_appT1 rfl (.tmp 39) (.tmp 45) rfl w.heap.size _ out y rfl HO.out rfl hot.out HB.out.size ?_)
              intro v7 w7 o7 g7
              have O7 := hideIt o7
              have B7 : Hid (Below w.heap.size w w7) := hideIt (HB.out.trans (g7 _ (Nat.le_refl _)))
              clear o7 g7
              go_wp2_with fail
              go_roundw
              case rel => exact ⟨i + 1, i + 2, out ++ [y], by omega, rfl, rfl, O7.out, S2.out, B7.out⟩
              case measure => simp [intOf]; omega
        · have q2 : ((((bs[i + 1]).toNat : Nat) : Int) != 10) = true := by rw [bne_iff_ne]; exact fun h => h10 (UInt8.toNat_inj.1 (by show _ = 10; omega))
          have S2 := hideIt (HS.out.miss (.inr (by rw [HH.out, decide_eq_false h10, Bool.and_false])))
          clear h13 h10
          generalize ((bs[i]).toNat : Int) = x1 at *
          generalize ((bs[i + 1]).toNat : Int) = x2 at *
          go_wp2_with fail
          go_roundw
          case rel => exact ⟨i + 1, fr, out, by omega, rfl, rfl, HO.out, S2.out, HB.out⟩
          case measure => simp [intOf]; omega
      · have q1 : ((((bs[i]).toNat : Nat) : Int) != 13) = true := by rw [bne_iff_ne]; exact fun h => h13 (UInt8.toNat_inj.1 (by show _ = 13; omega))
        have S2 := hideIt (HS.out.miss (.inr (by rw [HH.out, decide_eq_false h13, Bool.false_and])))
        clear h13 k2
        generalize ((bs[i]).toNat : Int) = x1 at *
        go_wp2_with fail
        go_roundw
        case rel => exact ⟨i + 1, fr, out, by omega, rfl, rfl, HO.out, S2.out, HB.out⟩
        case measure => simp [intOf]; omega
    · have hlt' : ¬ ((i + 1 : Nat) : Int) < (bs.length : Int) := by omega
      have E := hideIt (HS.out.none (by omega))
      go_wp2_with fail
      go_ret3
      have e := HR.out.symm.trans E.out
      exact ⟨_, by rw [e]; rfl, by rw [e]; exact SOwn.nil _ _, HB.out⟩
theorem go_reflines : goFn Tryd.prog 40 = true := by kernel_rfl
end Go.Proofs.YtolikoediafkkaaDoor
