/- The reference's put: contract. -/
import Derived.Test.YthpbhfepiekchaaRefDWith
import Derived.BigQuiet
import Derived.Sort.Walk0
namespace Go.Proofs.Ythpbhfepiekchaa
open Go.ChangeShapes Go.WideShapes Go.ChangeAt Go.RowKit
set_option linter.unusedVariables false
set_option linter.unusedSimpArgs false

theorem ins_at (ws : List FR) (r : FR) (j : Nat) (h1 : ∀ i q, i < j → ws[i]? = some q → q.name < r.name) (h2 : ∀ q, ws[j]? = some q → ¬ q.name < r.name) (hj : j ≤ ws.length) : (ws.take j ++ [r] ++ ws.drop j).map FR.file = insP (ws.map FR.file) r.file := by
  induction ws generalizing j with
  | nil => simp [insP]
  | cons q rest ih =>
    cases j with
    | zero =>
      have hq : ¬ (FR.file q).name < (FR.file r).name := h2 q rfl
      simp [insP, hq]
    | succ j =>
      have hq : (FR.file q).name < (FR.file r).name := h1 0 q (by omega) rfl
      have := ih j (fun i x hi hx => h1 (i + 1) x (by omega) (by simpa using hx)) (fun x hx => h2 x (by simpa using hx)) (by simpa using hj)
      simp only [List.map_cons, insP, if_pos hq]
      rw [← this]
      simp
theorem lt_text (a b : List UInt8) (r : Bool) (h : decide (a < b) = r) : Op.bytesLess (strOf a).toList (strOf b).toList = r := by
  rw [strOf_toList, strOf_toList, bytesLess_eq, h]
theorem FAt.take {w : World} {A : Option Addr} {rs : List FR} (h : FAt w A rs) (j : Nat) : FAt w A (rs.take j) := fun hn => by
  rw [List.length_take] at hn
  obtain ⟨b, off, e, hlt, hc⟩ := h (by omega)
  refine ⟨b, off, e, hlt, fun i x hi => hc i x ?_⟩
  rw [List.getElem?_take] at hi
  split at hi
  · exact hi
  · cases hi
theorem FAt.drop {w : World} {b off : Nat} {rs : List FR} (h : FAt w (some ⟨b, off, none⟩) rs) (j : Nat) : FAt w (some ⟨b, off + 3 * j, none⟩) (rs.drop j) := fun hn => by
  rw [List.length_drop] at hn
  obtain ⟨b', off', e, hlt, hc⟩ := h (by omega)
  cases e
  refine ⟨b, off + 3 * j, rfl, hlt, fun i x hi => ?_⟩
  rw [List.getElem?_drop] at hi
  have := hc (j + i) x hi
  rw [show off + 3 * (j + i) = off + 3 * j + 3 * i by omega] at this
  exact this
theorem slice_hiF (A : Option Addr) (m c n : Nat) (h1 : n ≤ c) (w : World) : (Instr.slice 35 (.slice A m c) none (some (.int .i64 (n : Int))) none).run Try.prog w = .ok (.slice A n c) w := by
  obtain ⟨i0, hi, hz0, hz1, hz2⟩ := info_parts info_file
  have e1 : (0 : Int) ≤ (n : Int) ∧ (n : Int) ≤ (c : Int) := by omega
  simp [Instr.slice, Instr.sliceBounds, Instr.sliceBound, asIntOf, run_underlying Try.underlying35, sizeOf, typeInfo, hi, e1, add_none]
  intro h; omega
theorem slice_loF (A : Option Addr) (m c n : Nat) (h1 : n ≤ m) (h2 : m ≤ c) (hnil : A = none → c = 0) : ∃ A1, (∀ w, (Instr.slice 35 (.slice A m c) (some (.int .i64 (n : Int))) none none).run Try.prog w = .ok (.slice A1 (m - n) (c - n)) w) ∧
    (∀ w rs, rs.length = m → FAt w A rs → FAt w A1 (rs.drop n)) ∧ (A1 = none → c - n = 0) := by
  obtain ⟨i0, hi, hz0, hz1, hz2⟩ := info_parts info_file
  have e1 : (0 : Int) ≤ (n : Int) ∧ (n : Int) ≤ (m : Int) := by omega
  refine ⟨if c = n then A else A.map (·.add (n * 3)), fun w => ?_, fun w rs hm hb hn => ?_, fun h => ?_⟩
  · simp [Instr.slice, Instr.sliceBounds, Instr.sliceBound, asIntOf, run_underlying Try.underlying35, sizeOf, typeInfo, hi, hz1, e1]
    intro h; omega
  · rw [List.length_drop] at hn
    obtain ⟨b0, off0, rfl, hlt0, hc0⟩ := hb (by omega)
    obtain ⟨b', off', e, h1, h2⟩ := FAt.drop hb n (by rw [List.length_drop]; omega)
    refine ⟨b', off', ?_, h1, h2⟩
    rw [if_neg (by omega), ← e, Nat.mul_comm n 3, Option.map_some, Go.WideShapes.add_plain]
  · by_cases hcn : c = n
    · omega
    · rw [if_neg hcn] at h
      cases A with
      | none => have := hnil rfl; omega
      | some a => cases h
theorem below_drewN {B : Nat} {a w : World} (h : Below B a w) (n : Nat) : Below B a (w.drewN n) := ⟨h.os, h.tape, h.output, h.size, h.block⟩
theorem go_rwithout : goFn Try.prog 50 = true := by kernel_rfl
/-- three blocks: the disk, the file, the answer -/
theorem put_blocks (w : World) (a b c d e x y z : Value) : let X := (((w.alloc (.cells #[a, b, c, d, e] 37)).alloc (.cells #[x, y, z] 76)).alloc zeroD); TAt X w.heap.size #[a, b, c, d, e] ∧ X.heap[w.heap.size + 1]? = some (.cells #[x, y, z] 76 (0, 0)) ∧ TAt X (w.heap.size + 2) #[.slice none 0 0, .int .i64 0, .bool false, .int .i64 0, .bool false] ∧
    Below w.heap.size w X ∧ X.heap.size = w.heap.size + 3 := by
  have hs : (w.alloc (.cells #[a, b, c, d, e] 37)).heap.size = w.heap.size + 1 := by simp
  have hs2 : ((w.alloc (.cells #[a, b, c, d, e] 37)).alloc (.cells #[x, y, z] 76)).heap.size = w.heap.size + 2 := by simp
  refine ⟨((TAt.new w a b c d e).keep (Below.heap_alloc _ _ _ (by omega))).keep (Below.heap_alloc _ _ _ (by omega)), ?_, ?_, below_one (below_one (below_new w _) _) _, by simp⟩
  · rw [Below.heap_alloc _ _ _ (by omega), ← hs]; exact heap_alloc_new _ _
  · have := TAt.zero ((w.alloc (.cells #[a, b, c, d, e] 37)).alloc (.cells #[x, y, z] 76))
    rwa [hs2] at this
/-- the file's block -/
theorem f_all {w : World} {g : Nat} {r : FR} (h : w.heap[g]? = some (.cells #[.string (strOf r.name), r.row, .int .i64 (r.lasts : Int)] 76 (0, 0))) : w.cell? ⟨g, 0, none⟩ = some (.string (strOf r.name)) ∧ w.cell? ⟨g, 1, none⟩ = some r.row ∧ w.cell? ⟨g, 2, none⟩ = some (.int .i64 (r.lasts : Int)) ∧
    (loadVar 76 ⟨g, 0, none⟩).run Try.prog w = .ok (.agg #[.string (strOf r.name), r.row, .int .i64 (r.lasts : Int)]) w :=
  ⟨by rw [cell_of_row _ _ _ _ _ _ h]; rfl, by rw [cell_of_row _ _ _ _ _ _ h]; rfl, by rw [cell_of_row _ _ _ _ _ _ h]; rfl, run_loadVar_row (P := Try.prog) w g 76 76 _ (0, 0) _ h Try.underlying76 rfl (by kernel_rfl)⟩
set_option maxRecDepth 100000 in
set_option maxHeartbeats 8000000 in
theorem rput_raw {w : World} {A : Option Addr} {c : Nat} {rs : List FR} (hF : FAt w A rs) (r : FR) (n room : Nat) (hn : rs.length = n) (hm : rs.length ≤ 900000) (fu dead : Bool) (left : Int) :
    Calls Try.prog 49 #[tV (.slice A n c) room fu left dead, r.val] w fun e w' => ∃ A' c' rs', e = .returned (tV (.slice A' rs'.length c') room fu left dead) ∧ Below w.heap.size w w' ∧
      FAt w' A' rs' ∧ (∀ ad, A' = some ad → w.heap.size ≤ ad.block) ∧ (rs'.length ≤ c' ∧ c' ≤ maxLen) ∧ (A' = none → c' = 0) ∧ rs'.map FR.file = putP (rs.map FR.file) r.file ∧ ∀ q ∈ rs', q = r ∨ q ∈ rs := by
  obtain ⟨hX, hY, hZ, hB, hS⟩ := put_blocks w (.slice A n c) (.int .i64 (room : Int)) (.bool fu) (.int .i64 left) (.bool dead) (.string (strOf r.name)) r.row (.int .i64 (r.lasts : Int))
  unfold zeroD at hX hY hZ hB hS
  have hF2 := hF.keep hB
  have hg : Hid (w.heap.size + 2 ≠ w.heap.size) := hideIt (by omega)
  have hg1 : Hid (w.heap.size + 1 ≠ w.heap.size) := hideIt (by omega)
  have HX := hideIt hX
  have HY := hideIt hY
  have HZ := hideIt hZ
  have HB := hideIt hB
  have HS := hideIt hS
  have HF := hideIt hF2
  have HN := hideIt hn
  have HM := hideIt hm
  clear hX hY hZ hB hS hF2 hF hn hm
  unfold tV tC FR.val
  go_enter Try.func49, Try.ntmps49
  go_upto_region 1 with fail
  generalize ((w.alloc (.cells #[.slice A n c, .int .i64 (room : Int), .bool fu, .int .i64 left, .bool dead] 37)).alloc (.cells #[.string (strOf r.name), r.row, .int .i64 (r.lasts : Int)] 76)).alloc (.cells #[.slice none 0 0, .int .i64 0, .bool false, .int .i64 0, .bool false] 37) = X at *
  have HW := hideIt (rwithout_raw (c := c) HF.out r.name n room HN.out HM.out fu dead left)
  obtain ⟨q0, q1, q2, q3, q4, e0, e1, e2, e3, e4, ql⟩ := HX.out.all
  obtain ⟨f0, f1, f2, fl⟩ := f_all HY.out
  go_wp2_with fail
  refine HW.out.mono ?_
  rintro e w1 ⟨A1, c1, rfl, hB1, hF1, hA1, hc1, hnil1⟩
  unfold tV tC
  have HX1 := hideIt (HX.out.keep (hB1.block w.heap.size (by have := HS.out; omega)))
  have HY1 := hideIt ((hB1.block (w.heap.size + 1) (by have := HS.out; omega)).trans HY.out)
  have HZ1 := hideIt (HZ.out.keep (hB1.block (w.heap.size + 2) (by have := HS.out; omega)))
  have HB1 := hideIt (HB.out.trans (hB1.mono (by have := HS.out; omega)))
  have HSS : Hid (w.heap.size + 3 ≤ w1.heap.size) := hideIt (by have := HS.out; have := hB1.size; omega)
  have HA1 : Hid (∀ ad, A1 = some ad → w.heap.size + 3 ≤ ad.block) := hideIt fun ad e => by have := hA1 ad e; have := HS.out; omega
  have HF1 := hideIt hF1
  have HC1 := hideIt hc1
  have HNIL := hideIt hnil1
  have HLW : Hid ((rs.filter (otherR r.name)).length ≤ n) := hideIt (by have := List.length_filter_le (otherR r.name) rs; have := HN.out; omega)
  have HWM : Hid ((rs.filter (otherR r.name)).map FR.file = withoutP (rs.map FR.file) r.file.name) := hideIt (without_map rs r.name)
  have HWI : Hid (∀ q ∈ rs.filter (otherR r.name), q ∈ rs) := hideIt fun q hq => (List.mem_filter.1 hq).1
  clear hB1 hF1 hA1 hc1 hnil1 q0 q1 q2 q3 q4 e0 e1 e2 e3 e4 ql f0 f1 f2 fl
  generalize rs.filter (otherR r.name) = ws at *
  obtain ⟨m, hm⟩ : ∃ m, ws.length = m := ⟨_, rfl⟩
  rw [hm]
  have HNM := hideIt hm
  clear hm
  obtain ⟨q0, q1, q2, q3, q4, e0, e1, e2, e3, e4, ql⟩ := HX1.out.all
  have hX2 := HX1.out.set5 (.slice A1 m c1) (.int .i64 (room : Int)) (.bool fu) (.int .i64 left) (.bool dead)
  have hY2 : ((((((w1.setCell ⟨w.heap.size, 0, none⟩ (.slice A1 m c1)).setCell ⟨w.heap.size, 1, none⟩ (.int .i64 (room : Int))).setCell ⟨w.heap.size, 2, none⟩ (.bool fu)).setCell ⟨w.heap.size, 3, none⟩ (.int .i64 left)).setCell ⟨w.heap.size, 4, none⟩ (.bool dead))).heap[w.heap.size + 1]? = _ := (heap_set5 w1 w.heap.size _ _ _ _ _ (w.heap.size + 1) hg1.out).trans HY1.out
  have hZ2 := HZ1.out.keep (heap_set5 w1 w.heap.size (.slice A1 m c1) (.int .i64 (room : Int)) (.bool fu) (.int .i64 left) (.bool dead) (w.heap.size + 2) hg.out)
  have hB2 := below_set5 HB1.out (Nat.le_refl w.heap.size) (.slice A1 m c1) (.int .i64 (room : Int)) (.bool fu) (.int .i64 left) (.bool dead)
  have hF2 : FAt ((((((w1.setCell ⟨w.heap.size, 0, none⟩ (.slice A1 m c1)).setCell ⟨w.heap.size, 1, none⟩ (.int .i64 (room : Int))).setCell ⟨w.heap.size, 2, none⟩ (.bool fu)).setCell ⟨w.heap.size, 3, none⟩ (.int .i64 left)).setCell ⟨w.heap.size, 4, none⟩ (.bool dead))) A1 ws := HF1.out.moved fun ad had k => heap_set5 _ _ _ _ _ _ _ _ (by have := HA1.out ad had; omega)
  have hs2 : ((((((w1.setCell ⟨w.heap.size, 0, none⟩ (.slice A1 m c1)).setCell ⟨w.heap.size, 1, none⟩ (.int .i64 (room : Int))).setCell ⟨w.heap.size, 2, none⟩ (.bool fu)).setCell ⟨w.heap.size, 3, none⟩ (.int .i64 left)).setCell ⟨w.heap.size, 4, none⟩ (.bool dead))).heap.size = w1.heap.size := by simp [World.setCell]
  have HX2 := hideIt hX2
  have HY2 := hideIt hY2
  have HZ2 := hideIt hZ2
  have HB2 := hideIt hB2
  have HF2 := hideIt hF2
  have HS2 : Hid (w.heap.size + 3 ≤ ((((((w1.setCell ⟨w.heap.size, 0, none⟩ (.slice A1 m c1)).setCell ⟨w.heap.size, 1, none⟩ (.int .i64 (room : Int))).setCell ⟨w.heap.size, 2, none⟩ (.bool fu)).setCell ⟨w.heap.size, 3, none⟩ (.int .i64 left)).setCell ⟨w.heap.size, 4, none⟩ (.bool dead))).heap.size) := hideIt (by rw [hs2]; exact HSS.out)
  clear hX2 hY2 hZ2 hB2 hF2 hs2
  go_upto_region 2 with fail
  generalize ((((w1.setCell ⟨w.heap.size, 0, none⟩ (.slice A1 m c1)).setCell ⟨w.heap.size, 1, none⟩ (.int .i64 (room : Int))).setCell ⟨w.heap.size, 2, none⟩ (.bool fu)).setCell ⟨w.heap.size, 3, none⟩ (.int .i64 left)).setCell ⟨w.heap.size, 4, none⟩ (.bool dead) = X2 at *
  clear q0 q1 q2 q3 q4 e0 e1 e2 e3 e4 ql
  obtain ⟨q0, q1, q2, q3, q4, e0, e1, e2, e3, e4, ql⟩ := HX2.out.all
  obtain ⟨f0, f1, f2, fl⟩ := f_all HY2.out
  have HSZ2 := HS2
  go_wp2_with fail
  go_loopw [5] (fun i wr => ∃ (j : Nat), i = .int .i64 (j : Int) ∧ j ≤ m ∧ Below X2.heap.size X2 wr ∧ ∀ i q, i < j → ws[i]? = some q → q.name < r.name) (fun i _ => m - (intOf i).toNat)
  case atStart => exact ⟨0, rfl, by omega, Below.refl _ _, fun i q hi => by omega⟩
  case round =>
    obtain ⟨j, rfl, hj, hb, hless⟩ := hrel
    have HXr := hideIt (HX2.out.keep (hb.block w.heap.size (by have := HS2.out; omega)))
    have HYr := hideIt ((hb.block (w.heap.size + 1) (by have := HS2.out; omega)).trans HY2.out)
    have HZr := hideIt (HZ2.out.keep (hb.block (w.heap.size + 2) (by have := HS2.out; omega)))
    have HFr := hideIt (HF2.out.keep hb)
    have HBr := hideIt (HB2.out.trans (hb.mono (by have := HS2.out; omega)))
    have HSr : Hid (w.heap.size + 3 ≤ wr.heap.size) := hideIt (by have := HS2.out; have := hb.size; omega)
    have HWB := hideIt hb
    clear q0 q1 q2 q3 q4 e0 e1 e2 e3 e4 ql f0 f1 f2 fl hb
    obtain ⟨q0, q1, q2, q3, q4, e0, e1, e2, e3, e4, ql⟩ := HXr.out.all
    obtain ⟨f0, f1, f2, fl⟩ := f_all HYr.out
    have hmb : m ≤ 900000 := by have := HLW.out; have := HNM.out; have := HM.out; have := HN.out; omega
    by_cases hlt : j < m ∧ ∃ q, ws[j]? = some q ∧ q.name < r.name
    · obtain ⟨hlt1, q, hq, hqn⟩ := hlt
      have hlt' : (j : Int) < (m : Int) := by omega
      have hwj : IntKind.i64.wrap ((j : Int) + 1) = (j : Int) + 1 := IntWalk.i64_in _ (by omega)
      have heq := lt_text q.name r.name true (decide_eq_true hqn)
      have R : Hid (∃ (j' : Nat), Value.int .i64 ((j : Int) + 1) = .int .i64 (j' : Int) ∧ j' ≤ m ∧ (∀ nq, Below X2.heap.size X2 (wr.drewN nq)) ∧ ∀ i q, i < j' → ws[i]? = some q → q.name < r.name) := hideIt
        ⟨j + 1, by simp, by omega, fun nq => below_drewN HWB.out nq, fun i x hi hx => by
          by_cases hij : i = j
          · subst hij; rw [hq] at hx; cases hx; exact hqn
          · exact hless i x (by omega) hx⟩
      obtain ⟨b, off, rfl, hbb, hc⟩ := HFr.out (by have := HNM.out; omega)
      obtain ⟨g1, _, _⟩ := hc j q hq
      rw [show off + 3 * j = off + j * 3 by omega] at g1
      clear hc hq hless hqn
      go_wp2_with fail
      go_quiet (fail)
      go_wp2_with fail
      go_roundw
      case rel =>
        obtain ⟨j', r1, r2, r3, r4⟩ := R.out
        exact ⟨j', r1, r2, r3 _, r4⟩
      case measure => simp [intOf]; omega
    · have HIN : Hid ((ws.take j ++ [r] ++ ws.drop j).map FR.file = insP (ws.map FR.file) r.file) := hideIt (ins_at ws r j hless (fun q hq hh => hlt ⟨by
        have := (List.getElem?_eq_some_iff.1 hq).1
        have := HNM.out; omega, q, hq, hh⟩) (by have := HNM.out; omega))
      have HLT := hideIt hlt
      have hcm : m ≤ c1 := by have := HC1.out.1; have := HNM.out; omega
      have hslh := slice_hiF A1 m c1 j (by omega)
      obtain ⟨A5, hsll, hf5, hn5⟩ := slice_loF A1 m c1 j hj hcm HNIL.out
      have HF5 := hideIt hf5
      have HN5 := hideIt hn5
      have HTJ : Hid ((ws.take j).length = j) := hideIt (by rw [List.length_take]; have := HNM.out; omega)
      clear hf5 hn5
      clear hlt
      rcases Nat.lt_or_ge j m with hjm | hjm
      case' inl =>
        obtain ⟨q, hq⟩ : ∃ q, ws[j]? = some q := ⟨_, List.getElem?_eq_getElem (by have := HNM.out; omega)⟩
        have hlt' : (j : Int) < (m : Int) := by omega
        have heq := lt_text q.name r.name false (decide_eq_false fun hh => HLT.out ⟨hjm, q, hq, hh⟩)
        obtain ⟨b, off, rfl, hbb, hc⟩ := HFr.out (by have := HNM.out; omega)
        obtain ⟨g1, _, _⟩ := hc j q hq
        rw [show off + 3 * j = off + j * 3 by omega] at g1
        clear hc hq hless hjm
        go_wp2_with fail
        go_quiet (fail)
        go_wp2_with (at_builtin; refine wpList_appF rfl (.tmp 29) (.tmp 33) rfl wr.heap.size _ [] rfl (FOwn.nil _ _) _ j c1 (ws.take j) rfl HTJ.out HNIL.out (FAt.take HFr.out j) (by simp only [List.length_nil]; rw [HTJ.out]; omega) (Nat.le_refl _) ?_)
        intro v3 w3 o3 g3
      case' inr =>
        have hlt' : ¬ (j : Int) < (m : Int) := by omega
        have hlt2 : decide (j < m) = false := decide_eq_false (by omega)
        have hlt3 : decide ((j : Int) < (m : Int)) = false := decide_eq_false (by omega)
        clear hless hjm
        go_wp2_with fail
        go_quiet (fail)
        go_wp2_with (at_builtin; refine wpList_appF rfl (.tmp 29) (.tmp 33) rfl wr.heap.size _ [] rfl (FOwn.nil _ _) _ j c1 (ws.take j) rfl HTJ.out HNIL.out (FAt.take HFr.out j) (by simp only [List.length_nil]; rw [HTJ.out]; omega) (Nat.le_refl _) ?_)
        intro v3 w3 o3 g3
      all_goals
        have GW : Below wr.heap.size wr w3 := (below_drewN (Below.refl wr.heap.size wr) _).grown g3 (Nat.le_refl _) (fun k hk => by simp [Value.ownBlock] at hk)
        have GW0 := hideIt GW
        have HX3 := hideIt (HXr.out.keep (GW.block w.heap.size (by have := HSr.out; omega)))
        have HY3 := hideIt ((GW.block (w.heap.size + 1) (by have := HSr.out; omega)).trans HYr.out)
        have HZ3 := hideIt (HZr.out.keep (GW.block (w.heap.size + 2) (by have := HSr.out; omega)))
        have HB3 := hideIt (HBr.out.trans (GW.mono (by have := HSr.out; omega)))
        have HF3 := hideIt (HFr.out.keep GW)
        have HS3 : Hid (wr.heap.size ≤ w3.heap.size) := hideIt GW.size
        have HO3 := hideIt o3
        clear q0 q1 q2 q3 q4 e0 e1 e2 e3 e4 ql f0 f1 f2 fl g3 GW o3
        obtain ⟨q0, q1, q2, q3, q4, e0, e1, e2, e3, e4, ql⟩ := HX3.out.all
        obtain ⟨f0, f1, f2, fl⟩ := f_all HY3.out
        unfold FR.row at fl
        go_wp2_with (at_builtin; refine wpList_appF1 rfl (.tmp 35) (.tmp 37) rfl wr.heap.size _ _ r rfl HO3.out rfl (by rw [HTJ.out]; omega) HS3.out ?_)
        intro v4 w4 o4 g4
        have g5 := g4 _ (Nat.le_refl _)
        have HX4 := hideIt (HX3.out.keep (g5.block w.heap.size (by have := HSr.out; omega)))
        have HZ4 := hideIt (HZ3.out.keep (g5.block (w.heap.size + 2) (by have := HSr.out; omega)))
        have HB4 := hideIt (HB3.out.trans (g5.mono (by have := HSr.out; omega)))
        have HF4 := hideIt (HFr.out.keep (GW0.out.trans g5))
        have HS4 : Hid (wr.heap.size ≤ w4.heap.size) := hideIt (by have := HS3.out; have := g5.size; omega)
        have HO4 := hideIt o4
        clear q0 q1 q2 q3 q4 e0 e1 e2 e3 e4 ql f0 f1 f2 fl g4 g5 o4
        obtain ⟨q0, q1, q2, q3, q4, e0, e1, e2, e3, e4, ql⟩ := HX4.out.all
        have HLD : Hid ((ws.drop j).length = m - j) := hideIt (by rw [List.length_drop, HNM.out])
        go_wp2_with (at_builtin; refine wpList_appF rfl (.tmp 39) (.tmp 43) rfl wr.heap.size _ _ rfl HO4.out _ (m - j) (c1 - j) (ws.drop j) rfl HLD.out HN5.out (HF5.out _ _ HNM.out HF4.out) (by rw [List.length_append, HTJ.out, HLD.out]; simp; omega) HS4.out ?_)
        intro v5 w5 o5 g5
        obtain ⟨rs', hrs⟩ : ∃ rs', List.take j ws ++ r :: List.drop j ws = rs' := ⟨_, rfl⟩
        have HIM : Hid (rs'.map FR.file = putP (rs.map FR.file) r.file) := hideIt (by
          have := HIN.out
          rw [List.append_assoc, List.singleton_append, hrs, HWM.out] at this
          exact this)
        have HMEM : Hid (∀ q ∈ rs', q = r ∨ q ∈ rs) := hideIt (fun q hq => by
          rw [← hrs] at hq
          simp only [List.mem_append, List.mem_cons] at hq
          rcases hq with hq | hq | hq
          · exact Or.inr (HWI.out q (List.mem_of_mem_take hq))
          · exact Or.inl hq
          · exact Or.inr (HWI.out q (List.mem_of_mem_drop hq)))
        rw [hrs] at o5
        clear hrs
        have G5 : Below wr.heap.size w4 w5 := (Below.refl _ _).grown g5 HS4.out (fun k hk => (World.ownsRow.lt HO4.out k hk).1)
        obtain ⟨A', c', rfl, o1, o2, o3, o4, o5'⟩ := o5.open
        obtain ⟨n', hn'⟩ : ∃ n', rs'.length = n' := ⟨_, rfl⟩
        rw [hn'] at o1
        have HNN := hideIt hn'
        have hX5 := HX4.out.keep (G5.block w.heap.size (by have := HSr.out; omega))
        have hZ5 := HZ4.out.keep (G5.block (w.heap.size + 2) (by have := HSr.out; omega))
        have hB5 : Below w.heap.size w w5 := HB4.out.trans (G5.mono (by have := HSr.out; omega))
        clear q0 q1 q2 q3 q4 e0 e1 e2 e3 e4 ql
        obtain ⟨p0, p1, p2, p3, p4, d0, d1, d2, d3, d4, pl⟩ := hX5.all
        have hX6 := hX5.set 0 (.slice A' n' c')
        have hZ6 := hZ5.keep (Below.heap_setCell w5 ⟨w.heap.size, 0, none⟩ (.slice A' n' c') _ hg.out)
        replace hX6 : TAt (w5.setCell ⟨w.heap.size, 0, none⟩ (.slice A' n' c')) w.heap.size #[.slice A' n' c', .int .i64 (room : Int), .bool fu, .int .i64 left, .bool dead] := hX6
        obtain ⟨p0', p1', p2', p3', p4', d0', d1', d2', d3', d4', pl'⟩ := hX6.all
        obtain ⟨z0, z1, z2, z3, z4, y0, y1, y2, y3, y4, _⟩ := hZ6.all
        have ZS := hideIt (hZ6.set5 (.slice A' n' c') (.int .i64 (room : Int)) (.bool fu) (.int .i64 left) (.bool dead))
        have BS := hideIt (below_set5 (hB5.setCell (p := ⟨w.heap.size, 0, none⟩) (Nat.le_refl _) (.slice A' n' c')) (by omega : w.heap.size ≤ w.heap.size + 2) (.slice A' n' c') (.int .i64 (room : Int)) (.bool fu) (.int .i64 left) (.bool dead))
        have HAT : Hid (FAt (((((((w5.setCell ⟨w.heap.size, 0, none⟩ (.slice A' n' c')).setCell ⟨w.heap.size + 2, 0, none⟩ (.slice A' n' c')).setCell ⟨w.heap.size + 2, 1, none⟩ (.int .i64 (room : Int))).setCell ⟨w.heap.size + 2, 2, none⟩ (.bool fu)).setCell ⟨w.heap.size + 2, 3, none⟩ (.int .i64 left)).setCell ⟨w.heap.size + 2, 4, none⟩ (.bool dead))) A' rs') := hideIt (o4.moved fun ad had k => by
          have h1 := o5' ad had
          have h2 := HSr.out
          rw [heap_set5 _ _ _ _ _ _ _ _ (by omega), Below.heap_setCell _ _ _ _ (by simp only; omega)])
        have HO5 : Hid (∀ ad, A' = some ad → w.heap.size ≤ ad.block) := hideIt fun ad had => by have := o5' ad had; have := HSr.out; omega
        have HO1 := hideIt (And.intro o1 o2)
        have HO3 := hideIt o3
        rw [hn', show w.heap.size + 1 + 1 = w.heap.size + 2 from rfl]
        clear hn'
        clear o5 hX5 hX6 hZ5 hZ6 hB5 o1 o2 o3 o4 o5' G5 g5
        go_wp2_with fail
        refine bodyPost_ret (results_D Try.results49 _ _ (w.heap.size + 2) _ _ _ _ _ rfl (by exact ZS.out)) rfl ?_
        exact ⟨A', c', rs', by rw [HNN.out], BS.out, HAT.out, HO5.out, by rw [HNN.out]; exact HO1.out, HO3.out, HIM.out, HMEM.out⟩
end Go.Proofs.Ythpbhfepiekchaa
