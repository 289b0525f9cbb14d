/- Contract of the reference's Same of pairs. -/
import Derived.Test.YtjfmlfakdijfjaaDoorPairCell
import Derived.Test.YtjfmlfakdijfjaaDoorCmp
import Derived.Deep.Cut
import Derived.Handy
namespace Go.Proofs.YtjfmlfakdijfjaaDoor
open Go.ChangeShapes Go.WideShapes Go.ChangeAt Go.RowKit
set_option linter.unusedVariables false
set_option linter.unusedSimpArgs false

theorem take_all {ps qs : List PairL} {j : Nat} (h : ps.take j = qs.take j) {x y : PairL} (hx : ps[j]? = some x) (hy : qs[j]? = some y) : x = y ↔ ps.take (j + 1) = qs.take (j + 1) := by
  rw [List.take_add_one, List.take_add_one, hx, hy, h]
  simp
theorem take_ne {ps qs : List PairL} {j : Nat} (h : ¬ ps.take j = qs.take j) : ¬ ps = qs := fun e => h (by rw [e])
set_option maxRecDepth 8000 in
set_option maxHeartbeats 2000000 in
theorem refsame_any (v u : Value) (ps qs : List PairL) (w : World) (hp : PairsV v ps w) (hq : PairsV u qs w) (hl : ps.length ≤ 140737488355328) :
    Calls Tryd.prog 28 #[v, u] w fun e w' => e = .returned (.bool (decide (ps = qs))) ∧ Below w.heap.size w w' := by
  obtain ⟨A, c, rfl, hc1, hc2, hc3, HA⟩ := hp.form
  obtain ⟨B, d, rfl, hd1, hd2, hd3, HB⟩ := hq.form
  have HPA := hideIt HA
  have HPB := hideIt HB
  clear hp hq HA HB hc3 hd3
  by_cases hlen : ps.length = qs.length
  · have HL := hideIt hlen
    have HR : Hid (ps.length = qs.length → ps = qs ↔ ps.take ps.length = qs.take ps.length) := hideIt ⟨fun h => by have := h hlen; rw [this], fun h _ => by rw [List.take_length, hlen, List.take_length] at h; exact h⟩
    rw [← hlen] at hd1 ⊢
    clear hlen
    obtain ⟨R, hR⟩ : ∃ R, decide (ps = qs) = R := ⟨_, rfl⟩
    rw [hR]
    have HRR := hideIt hR
    clear hR
    go_enter Tryd.func28, Tryd.ntmps28
    go_wp2
    go_loopw [5] (fun i wr => ∃ j : Nat, j ≤ ps.length ∧ i = .int .i64 (j : Int) ∧ ps.take j = qs.take j ∧ Below w.heap.size w wr) (fun i wr => ps.length - (intOf i).toNat)
    case atStart => exact ⟨0, by omega, rfl, rfl, Below.refl _ _⟩
    case round =>
      obtain ⟨j, hj, rfl, ht, hb⟩ := hrel
      have HT := hideIt ht
      have HBW := hideIt hb
      clear ht hb
      have hwj : IntKind.i64.wrap ((j : Int) + 1) = (j : Int) + 1 := IntWalk.i64_in _ (by omega)
      by_cases hlt : j < ps.length
      · have hlt' : (j : Int) < (ps.length : Int) := by omega
        obtain ⟨x, hx⟩ : ∃ x, ps[j]? = some x := ⟨_, List.getElem?_eq_getElem hlt⟩
        obtain ⟨y, hy⟩ : ∃ y, qs[j]? = some y := ⟨_, List.getElem?_eq_getElem (by have := HL.out; omega)⟩
        obtain ⟨a, oa, rfl, la, ka⟩ := (HPA.out.keep HBW.out) (by omega)
        obtain ⟨b, ob, rfl, lb, kb⟩ := (HPB.out.keep HBW.out) (by have := HL.out; omega)
        obtain ⟨a1, a2⟩ := ka j x hx
        obtain ⟨b1, b2⟩ := kb j y hy
        have HTA := hideIt (take_all HT.out hx hy)
        clear ka kb hx hy la lb
        rw [show oa + 2 * j = oa + j * 2 by omega] at a1 a2
        rw [show ob + 2 * j = ob + j * 2 by omega] at b1 b2
        by_cases hxy : x = y
        · subst hxy
          have HT2 := hideIt (HTA.out.1 rfl)
          go_wp2_with fail
          go_region
          go_wp2_with fail
          go_roundw
          case rel => exact ⟨j + 1, by omega, by go_num, HT2.out, HBW.out.drew⟩
          case measure => simp [intOf]; omega
        · have HF : Hid (R = false) := hideIt (by rw [← HRR.out]; exact decide_eq_false fun e => hxy (HTA.out.2 (by rw [e])))
          obtain ⟨x1, x2⟩ := x
          obtain ⟨y1, y2⟩ := y
          simp only at a1 a2 b1 b2
          by_cases h1 : x1 = y1
          · subst h1
            have hs : ¬ (strOf x2).toList = (strOf y2).toList := by rw [strOf_toList, strOf_toList]; exact fun e => hxy (by rw [e])
            clear hxy
            go_wp2_with fail
            go_region
            go_wp2_with fail
            go_ret
            exact ⟨by rw [HF.out]; rfl, HBW.out.drew⟩
          · have hs : ¬ (strOf x1).toList = (strOf y1).toList := by rw [strOf_toList, strOf_toList]; exact h1
            clear hxy
            go_wp2_with fail
            go_region
            go_wp2_with fail
            go_ret
            exact ⟨by rw [HF.out]; rfl, HBW.out.drew⟩
      · obtain rfl : j = ps.length := by omega
        have hlt' : ¬ (ps.length : Int) < (ps.length : Int) := by omega
        have HF : Hid (R = true) := hideIt (by
          rw [← HRR.out]
          have h1 := HT.out
          have h2 := HL.out
          refine decide_eq_true ?_
          rw [List.take_length] at h1
          rw [h1, h2, List.take_length])
        go_wp2_with fail
        go_ret
        exact ⟨by rw [HF.out]; rfl, HBW.out⟩
  · have e : decide (ps = qs) = false := decide_eq_false fun e => hlen (by rw [e])
    rw [e]
    have hne : ((ps.length : Int) == (qs.length : Int)) = false := by rw [beq_eq_false_iff_ne]; omega
    clear e hlen
    go_enter Tryd.func28, Tryd.ntmps28
    go_wp2
    go_ret
    exact ⟨rfl, Below.refl _ _⟩
theorem go_refsame : goFn Tryd.prog 28 = true := by kernel_rfl
end Go.Proofs.YtjfmlfakdijfjaaDoor
