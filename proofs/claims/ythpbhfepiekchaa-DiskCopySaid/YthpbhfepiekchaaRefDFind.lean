/- The reference's find, name, Used, step: contracts. -/
import Derived.Test.YthpbhfepiekchaaRefDMem
import Derived.Handy
import Derived.Deep.Cut
namespace Go.Proofs.Ythpbhfepiekchaa
open Go.ChangeShapes Go.WideShapes Go.ChangeAt Go.RowKit
set_option linter.unusedVariables false
set_option linter.unusedSimpArgs false

theorem TAt.new (w : World) (a b c d e : Value) : TAt (w.alloc (.cells #[a, b, c, d, e] 37)) w.heap.size #[a, b, c, d, e] := ⟨rfl, heap_alloc_new w _⟩
theorem rname_any (s : List UInt8) (w : World) (hs : s.length ≤ 4611686018427387904) : Calls Try.prog 47 #[.string (strOf s)] w fun e w' => e = .returned (.bool (decide (nameP s))) ∧ w' = w := by
  have hsz := strOf_size s
  by_cases h1 : 1 ≤ s.length
  · have e : decide (nameP s) = decide (((strOf s).size : Int) ≤ 20) := by rw [hsz]; unfold nameP; congr 1; exact propext ⟨fun h => by omega, fun h => by omega⟩
    rw [e]; clear e
    rw [← hsz] at h1
    clear hsz hs
    go_enter Try.func47, Try.ntmps47
    go_wp2
    go_ret
    exact ⟨rfl, rfl⟩
  · have e : decide (nameP s) = false := by simp [nameP, h1]
    rw [e]; clear e
    rw [← hsz] at h1
    clear hsz hs
    go_enter Try.func47, Try.ntmps47
    go_wp2
    go_ret
    exact ⟨rfl, rfl⟩
theorem eq_text (a b : List UInt8) (r : Bool) (h : decide (a = b) = r) : ((strOf a).toList == (strOf b).toList) = r := by
  subst h
  rw [strOf_toList, strOf_toList]
  by_cases h : a = b
  · simp [h]
  · simp [h]
set_option maxHeartbeats 4000000 in
theorem rfind_any {w : World} {N : Nat → Prop} {A : Option Addr} {c : Nat} {rs : List FR} {left : Int} {D : DiskP} (h : TOk w N A c rs left D) (s : List UInt8) (n room : Nat) (hn : rs.length = n) (hm : rs.length ≤ 1000000) (fu dead : Bool) :
    Calls Try.prog 46 #[tV (.slice A n c) room fu left dead, .string (strOf s)] w fun e w' => e = .returned (.int .i64 (posV (posR rs s))) ∧ Below w.heap.size w w' := by
  have hT := TAt.new w (.slice A n c) (.int .i64 (room : Int)) (.bool fu) (.int .i64 left) (.bool dead)
  have hB := below_new w (.cells #[.slice A n c, .int .i64 (room : Int), .bool fu, .int .i64 left, .bool dead] 37)
  have hF := h.at_.keep hB
  have HT := hideIt hT
  have HB := hideIt hB
  have HF := hideIt hF
  have HN := hideIt hn
  have HM := hideIt hm
  obtain ⟨r, hr⟩ : ∃ r, posV (posR rs s) = r := ⟨_, rfl⟩
  rw [hr]
  have HR := hideIt hr
  clear hT hB hF h hn hm hr
  unfold tV tC
  go_enter Try.func46, Try.ntmps46
  go_wp2
  generalize w.alloc (.cells #[.slice A n c, .int .i64 (room : Int), .bool fu, .int .i64 left, .bool dead] 37) = X at *
  have c0 : X.cell? ⟨w.heap.size, 0, none⟩ = some (.slice A n c) := HT.out.cell 0
  go_loopw [5] (fun i wr => ∃ (j : Nat), i = .int .i64 (j : Int) ∧ j ≤ n ∧ wr = X ∧ ∀ i q, i < j → rs[i]? = some q → q.name ≠ s) (fun i _ => n - (intOf i).toNat)
  case atStart => exact ⟨0, rfl, by omega, rfl, fun i q hi => by omega⟩
  case round =>
    obtain ⟨j, rfl, hj, rfl, hmiss⟩ := hrel
    by_cases hlt : j < n
    · have hlt' : (j : Int) < (n : Int) := by omega
      have hwj : IntKind.i64.wrap ((j : Int) + 1) = (j : Int) + 1 := IntWalk.i64_in _ (by have := HM.out; have := HN.out; omega)
      obtain ⟨q, hq⟩ : ∃ q, rs[j]? = some q := ⟨_, List.getElem?_eq_getElem (by have := HN.out; omega)⟩
      obtain ⟨b, off, rfl, hb, hc⟩ := HF.out (by have := HN.out; omega)
      obtain ⟨q1, _, _⟩ := hc j q hq
      rw [show off + 3 * j = off + j * 3 by omega] at q1
      by_cases he : q.name = s
      · have heq := eq_text q.name s true (decide_eq_true he)
        have hres : r = (j : Int) := by rw [← HR.out, posR_is hmiss hq he]; rfl
        subst hres
        clear hc hq hmiss he
        go_wp2
        go_ret
        exact ⟨rfl, HB.out⟩
      · have heq := eq_text q.name s false (decide_eq_false he)
        have R : Hid (∃ (j' : Nat), Value.int .i64 ((j : Int) + 1) = .int .i64 (j' : Int) ∧ j' ≤ n ∧ True ∧ ∀ i q, i < j' → rs[i]? = some q → q.name ≠ s) := hideIt
          ⟨j + 1, by simp, by omega, trivial, fun i x hi hx => by
            by_cases hij : i = j
            · subst hij; rw [hq] at hx; cases hx; exact he
            · exact hmiss i x (by omega) hx⟩
        clear hc hq hmiss he
        go_wp2
        go_roundw
        case rel => exact R.out
        case measure => simp [intOf]; omega
    · have hres : r = -1 := by rw [← HR.out, posR_miss (fun i q hi hq => hmiss i q (by have := HN.out; omega) hq)]; rfl
      subst hres
      obtain rfl : j = n := by omega
      clear hmiss hlt
      go_wp2
      go_ret
      exact ⟨rfl, HB.out⟩
theorem go_rname : goFn Try.prog 47 = true := by kernel_rfl
theorem go_rfind : goFn Try.prog 46 = true := by kernel_rfl
theorem go_rused : goFn Try.prog 42 = true := by kernel_rfl
/-- bytes of the first files -/
def bytesR (rs : List FR) : Nat := (rs.map fun r => r.b.length).sum
theorem bytesR_used (rs : List FR) : bytesR rs = usedP (rs.map FR.file) := by
  unfold bytesR usedP
  rw [List.map_map]; rfl
theorem bytesR_take (rs : List FR) (j : Nat) (q : FR) (h : rs[j]? = some q) : bytesR (rs.take (j + 1)) = bytesR (rs.take j) + q.b.length := by
  obtain ⟨h1, h2⟩ := List.getElem?_eq_some_iff.1 h
  unfold bytesR
  rw [List.take_succ_eq_append_getElem h1, List.map_append, List.sum_append_nat, h2]
  simp
theorem bytesR_le (rs : List FR) (j : Nat) : bytesR (rs.take j) ≤ bytesR rs := by
  have h : rs = rs.take j ++ rs.drop j := (List.take_append_drop j rs).symm
  have : bytesR rs = bytesR (rs.take j) + bytesR (rs.drop j) := by
    conv => lhs; rw [h]
    unfold bytesR
    rw [List.map_append, List.sum_append_nat]
  omega
set_option maxHeartbeats 4000000 in
theorem rused_any {w : World} {N : Nat → Prop} {A : Option Addr} {c : Nat} {rs : List FR} {left : Int} {D : DiskP} (h : TOk w N A c rs left D) (n room : Nat) (hn : rs.length = n) (hm : rs.length ≤ 1000000) (hu : usedP D.files ≤ 100000000) (fu dead : Bool) :
    Calls Try.prog 42 #[tV (.slice A n c) room fu left dead] w fun e w' => e = .returned (.int .i64 (usedP D.files : Nat)) ∧ Below w.heap.size w w' := by
  have hT := TAt.new w (.slice A n c) (.int .i64 (room : Int)) (.bool fu) (.int .i64 left) (.bool dead)
  have hB := below_new w (.cells #[.slice A n c, .int .i64 (room : Int), .bool fu, .int .i64 left, .bool dead] 37)
  have hF := h.at_.keep hB
  have HT := hideIt hT
  have HB := hideIt hB
  have HF := hideIt hF
  have HN := hideIt hn
  have HM := hideIt hm
  have hub : usedP D.files = bytesR rs := by rw [bytesR_used, h.files]
  rw [hub] at hu ⊢
  have HU := hideIt hu
  clear hT hB hF h hn hm hu hub
  unfold tV tC
  go_enter Try.func42, Try.ntmps42
  go_wp2
  generalize w.alloc (.cells #[.slice A n c, .int .i64 (room : Int), .bool fu, .int .i64 left, .bool dead] 37) = X at *
  have c0 : X.cell? ⟨w.heap.size, 0, none⟩ = some (.slice A n c) := HT.out.cell 0
  go_loopw [3, 4] (fun u i wr => ∃ (j : Nat), u = .int .i64 ((bytesR (rs.take j) : Nat) : Int) ∧ i = .int .i64 (j : Int) ∧ j ≤ n ∧ wr = X) (fun _ i _ => n - (intOf i).toNat)
  case atStart => exact ⟨0, rfl, rfl, by omega, rfl⟩
  case round =>
    obtain ⟨j, rfl, rfl, hj, rfl⟩ := hrel
    by_cases hlt : j < n
    · have hlt' : (j : Int) < (n : Int) := by omega
      have hwj : IntKind.i64.wrap ((j : Int) + 1) = (j : Int) + 1 := IntWalk.i64_in _ (by have := HM.out; have := HN.out; omega)
      obtain ⟨q, hq⟩ : ∃ q, rs[j]? = some q := ⟨_, List.getElem?_eq_getElem (by have := HN.out; omega)⟩
      obtain ⟨b, off, rfl, hb, hc⟩ := HF.out (by have := HN.out; omega)
      obtain ⟨_, q2, _⟩ := hc j q hq
      rw [show off + 3 * j + 1 = off + j * 3 + 1 by omega] at q2
      unfold FR.row at q2
      have ht := bytesR_take rs j q hq
      have hle := bytesR_le rs (j + 1)
      have hww : IntKind.i64.wrap (((bytesR (rs.take j) : Nat) : Int) + (q.b.length : Int)) = ((bytesR (rs.take j) : Nat) : Int) + (q.b.length : Int) := IntWalk.i64_in _ (by have := HU.out; omega)
      have R : Hid (∃ (j' : Nat), Value.int .i64 (((bytesR (rs.take j) : Nat) : Int) + (q.b.length : Int)) = .int .i64 ((bytesR (rs.take j') : Nat) : Int) ∧ Value.int .i64 ((j : Int) + 1) = .int .i64 (j' : Int) ∧ j' ≤ n) := hideIt
        ⟨j + 1, by rw [ht]; simp, by simp, by omega⟩
      clear hc hq ht hle
      generalize ((bytesR (rs.take j) : Nat) : Int) = uu at *
      go_wp2
      go_roundw
      case rel =>
        obtain ⟨j', h1, h2, h3⟩ := R.out
        exact ⟨j', h1, h2, h3, trivial⟩
      case measure => simp [intOf]; omega
    · obtain rfl : j = n := by omega
      have R : Hid (rs.take j = rs) := hideIt (List.take_of_length_le (by have := HN.out; omega))
      clear hlt
      rw [R.out]
      go_wp2
      go_ret
      exact ⟨rfl, HB.out⟩
end Go.Proofs.Ythpbhfepiekchaa
