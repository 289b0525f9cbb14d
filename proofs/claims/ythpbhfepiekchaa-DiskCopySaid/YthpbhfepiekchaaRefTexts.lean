/- Texts that can be read, as a value; contract of the reference's SameTexts. -/
import Derived.Test.YthpbhfepiekchaaTexts
import Derived.Deep.Cut
import Derived.Handy
namespace Go.Proofs.Ythpbhfepiekchaa
open Go.ChangeShapes Go.WideShapes Go.ChangeAt Go.RowKit
set_option linter.unusedVariables false
set_option linter.unusedSimpArgs false

/-- texts that can be read, as a value -/
structure TextsV (v : Value) (ps : List (List UInt8)) (w : World) : Prop where
  form : ∃ A c, v = .slice A ps.length c ∧ ps.length ≤ c ∧ c ≤ 9223372036854775807 ∧ StrsAt w A ps
theorem TextsV.keep {v : Value} {ps : List (List UInt8)} {w w' : World} (h : TextsV v ps w) (hb : Below w.heap.size w w') : TextsV v ps w' := by
  obtain ⟨A, c, h1, h2, h3, h4⟩ := h.form
  exact ⟨A, c, h1, h2, h3, h4.keep hb⟩
theorem SOwn.reads {base : Nat} {v : Value} {ps : List (List UInt8)} {w : World} (h : SOwn base v ps w) : TextsV v ps w := by
  obtain ⟨A, c, h1, h2, h3, h4⟩ := h.open
  exact ⟨A, c, h1, h2, h3, h4⟩
def Fact.texts (ps : List (List UInt8)) : Fact := ⟨fun v w => TextsV v ps w, fun _ _ _ h hg => h.keep hg⟩
theorem takeT_all {ps qs : List (List UInt8)} {j : Nat} (h : ps.take j = qs.take j) {x y : List UInt8} (hx : ps[j]? = some x) (hy : qs[j]? = some y) : x = y ↔ ps.take (j + 1) = qs.take (j + 1) := by
  rw [List.take_add_one, List.take_add_one, hx, hy, h]
  simp
set_option maxRecDepth 8000 in
set_option maxHeartbeats 2000000 in
theorem reftexts_any (v u : Value) (ps qs : List (List UInt8)) (w : World) (hp : TextsV v ps w) (hq : TextsV u qs w) (hl : ps.length ≤ 1000000) :
    Calls Try.prog 41 #[v, u] w fun e w' => e = .returned (.bool (decide (ps = qs))) ∧ Below w.heap.size w w' := by
  obtain ⟨A, c, rfl, hc1, hc2, HA⟩ := hp.form
  obtain ⟨B, d, rfl, hd1, hd2, HB⟩ := hq.form
  have HPA := hideIt HA
  have HPB := hideIt HB
  clear hp hq HA HB
  by_cases hlen : ps.length = qs.length
  · have HL := hideIt hlen
    rw [← hlen] at hd1 ⊢
    clear hlen
    obtain ⟨R, hR⟩ : ∃ R, decide (ps = qs) = R := ⟨_, rfl⟩
    rw [hR]
    have HRR := hideIt hR
    clear hR
    go_enter Try.func41, Try.ntmps41
    go_wp2
    go_loopw [5] (fun i wr => ∃ j : Nat, j ≤ ps.length ∧ i = .int .i64 (j : Int) ∧ ps.take j = qs.take j ∧ Below w.heap.size w wr) (fun i wr => ps.length - (intOf i).toNat)
    case atStart => exact ⟨0, by omega, rfl, rfl, Below.refl _ _⟩
    case round =>
      obtain ⟨j, hj, rfl, ht, hb⟩ := hrel
      have HT := hideIt ht
      have HBW := hideIt hb
      clear ht hb
      have hwj : IntKind.i64.wrap ((j : Int) + 1) = (j : Int) + 1 := IntWalk.i64_in _ (by omega)
      by_cases hlt : j < ps.length
      · have hlt' : (j : Int) < (ps.length : Int) := by omega
        obtain ⟨x, hx⟩ : ∃ x, ps[j]? = some x := ⟨_, List.getElem?_eq_getElem hlt⟩
        obtain ⟨y, hy⟩ : ∃ y, qs[j]? = some y := ⟨_, List.getElem?_eq_getElem (by have := HL.out; omega)⟩
        obtain ⟨a, rfl, la, ka⟩ := (HPA.out.keep HBW.out) (by omega)
        obtain ⟨b, rfl, lb, kb⟩ := (HPB.out.keep HBW.out) (by have := HL.out; omega)
        have a1 := ka j x hx
        have b1 := kb j y hy
        have HTA := hideIt (takeT_all HT.out hx hy)
        clear ka kb hx hy la lb
        by_cases hxy : x = y
        · subst hxy
          have HT2 := hideIt (HTA.out.1 rfl)
          go_wp2_with fail
          go_region
          go_wp2_with fail
          go_roundw
          case rel => exact ⟨j + 1, by omega, by go_num, HT2.out, HBW.out.drew⟩
          case measure => simp [intOf]; omega
        · have HF : Hid (R = false) := hideIt (by rw [← HRR.out]; exact decide_eq_false fun e => hxy (HTA.out.2 (by rw [e])))
          have hs : ((strOf x).toList == (strOf y).toList) = false := by rw [beq_eq_false_iff_ne, strOf_toList, strOf_toList]; exact hxy
          clear hxy
          go_wp2_with fail
          go_region
          go_wp2_with fail
          go_ret
          exact ⟨by rw [HF.out]; rfl, HBW.out.drew⟩
      · obtain rfl : j = ps.length := by omega
        have hlt' : ¬ (ps.length : Int) < (ps.length : Int) := by omega
        have HF : Hid (R = true) := hideIt (by
          rw [← HRR.out]
          have h1 := HT.out
          have h2 := HL.out
          refine decide_eq_true ?_
          rw [List.take_length] at h1
          rw [h1, h2, List.take_length])
        go_wp2_with fail
        go_ret
        exact ⟨by rw [HF.out]; rfl, HBW.out⟩
  · have e : decide (ps = qs) = false := decide_eq_false fun e => hlen (by rw [e])
    rw [e]
    have hne : ((ps.length : Int) == (qs.length : Int)) = false := by rw [beq_eq_false_iff_ne]; omega
    clear e hlen
    go_enter Try.func41, Try.ntmps41
    go_wp2
    go_ret
    exact ⟨rfl, Below.refl _ _⟩
theorem go_reftexts : goFn Try.prog 41 = true := by kernel_rfl
end Go.Proofs.Ythpbhfepiekchaa
