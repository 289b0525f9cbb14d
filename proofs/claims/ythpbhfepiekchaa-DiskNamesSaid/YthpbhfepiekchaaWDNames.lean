/- The walk of DiskNames. -/
import Derived.Test.YthpbhfepiekchaaDiskLaw
import Derived.Laws.Cover1
namespace Go.Proofs.Ythpbhfepiekchaa
open Go.ChangeShapes Go.WideShapes Go.ChangeAt Go.RowKit
set_option linter.unusedVariables false
set_option linter.unusedSimpArgs false

theorem nmI_inj : ∀ j, j < 6 → ∀ k, k < 6 → nmI j = nmI k → j = k := by decide
theorem nmI_nodup : ((List.range 6).map nmI).Nodup := by decide
/-- i appends of rows of bl bytes, cnt j of them to file j -/
structure NmOk (D : DiskP) (bl : Nat) (cnt : Nat → Nat) (i : Nat) : Prop where
  ok : OkP D
  fuse : D.fuse = none
  dead : D.dead = false
  room : D.room = 1048576
  used : usedP D.files = i * bl
  each : ∀ j, j < 6 → (findP D.files (nmI j)).isSome = decide (0 < cnt j) ∧ (readL D (nmI j)).length = cnt j * bl
  names : ∀ f ∈ D.files, ∃ j, j < 6 ∧ f.name = nmI j
theorem NmOk.new (bl : Nat) : NmOk (newP 1048576) bl (fun _ => 0) 0 :=
  ⟨OkP.new _, rfl, rfl, rfl, by simp [newP, usedP], fun j _ => ⟨by simp [newP, findP], by simp [newP, findP, readL]⟩, fun f hf => by simp [newP] at hf⟩
def cN (cnt : Nat → Nat) (i : Nat) : Nat := ((List.range i).filter fun j => decide (0 < cnt j)).length
theorem cN_succ (cnt : Nat → Nat) (i : Nat) : cN cnt (i + 1) = cN cnt i + (if 0 < cnt i then 1 else 0) := by
  unfold cN
  rw [List.range_succ, List.filter_append, List.length_append]
  congr 1
  by_cases h : 0 < cnt i <;> simp [h]
theorem cN_le (cnt : Nat → Nat) (i : Nat) : cN cnt i ≤ i := by
  unfold cN
  have := List.length_filter_le (fun j => decide (0 < cnt j)) (List.range i)
  simpa using this
theorem NmOk.count {D : DiskP} {bl : Nat} {cnt : Nat → Nat} {i : Nat} (h : NmOk D bl cnt i) : D.files.length = cN cnt 6 := by
  rw [names_most h.ok.rise _ nmI_nodup fun f hf => by
    obtain ⟨j, hj, e⟩ := h.names f hf
    exact List.mem_map.2 ⟨j, List.mem_range.2 hj, e.symm⟩]
  unfold cN
  rw [List.filter_map, List.length_map]
  congr 1
  refine List.filter_congr fun j hj => ?_
  exact (h.each j (List.mem_range.1 hj)).1
theorem NmOk.step {D : DiskP} {b : List UInt8} {cnt : Nat → Nat} {i j : Nat} (h : NmOk D b.length cnt i) (hj : j < 6) (hi : i < 40) (hb : b.length ≤ 50) :
    ∃ D', appendP D (nmI j) b = (D', true) ∧ NmOk D' b.length (fun t => if t = j then cnt t + 1 else cnt t) (i + 1) := by
  have hlen : D.files.length ≤ 6 := by rw [h.count]; exact cN_le cnt 6
  have hmul : i * b.length ≤ 40 * 50 := Nat.mul_le_mul (by omega) hb
  have hm : mayP D (nmI j) b := ⟨by unfold nameP nmI; simp, by rw [h.used, h.room]; omega, .inr (by omega), h.dead⟩
  obtain ⟨u1, u2, u3, u4, u5⟩ := append_used h.ok hm h.fuse
  refine ⟨(appendP D (nmI j) b).1, Prod.ext rfl u2, h.ok.append _ _, u3, u4, by rw [u5, h.room], by rw [u1, h.used, Nat.succ_mul], fun t ht => ?_, fun f hf => ?_⟩
  · have hd : doneP D b.length = b.length := doneP_none h.fuse _
    by_cases e : t = j
    · subst e
      have e1 := append_finds hm (nmI t)
      rw [if_pos rfl, hd, List.take_length] at e1
      have h1 := (h.each t ht).2
      refine ⟨by rw [e1]; simp, ?_⟩
      have h2 : (fileP D.files (nmI t)).b = readL D (nmI t) := by
        unfold fileP readL
        cases findP D.files (nmI t) <;> rfl
      have e3 : readL (appendP D (nmI t) b).1 (nmI t) = (fileP D.files (nmI t)).b ++ b := by simp [readL, e1]
      rw [e3, List.length_append, h2, h1]
      simp [Nat.succ_mul]
    · have e1 := append_finds hm (nmI t)
      rw [if_neg fun e2 => e (nmI_inj t ht j hj e2)] at e1
      have h1 := h.each t ht
      simp only [if_neg e]
      refine ⟨by rw [e1]; exact h1.1, ?_⟩
      have : readL (appendP D (nmI j) b).1 (nmI t) = readL D (nmI t) := by simp only [readL, e1]
      rw [this]; exact h1.2
  · rw [appendP, if_pos hm] at hf
    rcases mem_put hf with rfl | hf
    · exact ⟨j, hj, rfl⟩
    · exact h.names f hf
/-- six counts in a block -/
def seenC (cnt : Nat → Nat) : Array Value := ((List.range 6).map fun j => Value.int .i64 (cnt j : Int)).toArray
def SeenAt (w : World) (g : Nat) (cnt : Nat → Nat) : Prop := w.heap[g]? = some (.cells (seenC cnt) 3 (0, 0))
theorem SeenAt.at {w : World} {g : Nat} {cnt : Nat → Nat} (h : SeenAt w g cnt) {j : Nat} (hj : j < 6) : w.cell? ⟨g, j, none⟩ = some (.int .i64 (cnt j : Int)) := by
  rw [cell_of_row w _ _ _ _ _ h]
  simp [seenC, hj]
theorem SeenAt.fz {w : World} {g : Nat} {cnt : Nat → Nat} (h : SeenAt w g cnt) (j : Nat) : w.frozen? ⟨g, j, none⟩ = false := Lib.frozen_of_heap h j
theorem SeenAt.lt {w : World} {g : Nat} {cnt : Nat → Nat} (h : SeenAt w g cnt) : g < w.heap.size := (Array.getElem?_eq_some_iff.1 h).1
theorem SeenAt.set {w : World} {g : Nat} {cnt : Nat → Nat} (h : SeenAt w g cnt) {j : Nat} (hj : j < 6) : SeenAt (w.setCell ⟨g, j, none⟩ (.int .i64 ((cnt j : Int) + 1))) g (fun t => if t = j then cnt t + 1 else cnt t) := by
  have := heap_setCell_same w g j _ _ (.int .i64 ((cnt j : Int) + 1)) h
  rw [SeenAt, this]
  congr 2
  apply Array.ext'
  refine List.ext_getElem (by simp [seenC]) fun k h1 h2 => ?_
  simp only [seenC, Array.toList_setIfInBounds, List.getElem_set, List.getElem_map, List.getElem_range]
  by_cases e : j = k
  · subst e; simp
  · rw [if_neg e, if_neg (fun h => e h.symm)]
theorem info_int : (Try.prog.info? 3).map (fun i => (i.zero, i.size, i.bytes)) = some (some (.int .i64 0), 1, 8) := by kernel_rfl
theorem make_six (w : World) : (Instr.makeSlice 58 (.int .i64 6) (.int .i64 6)).run Try.prog w = .ok (.slice (some ⟨w.heap.size, 0, none⟩) 6 6) (w.alloc (.cells (seenC fun _ => 0) 3)) := by
  obtain ⟨i0, hi, hz0, hz1, hz2⟩ := info_parts info_int
  have := run_makeSlice (P := Try.prog) (w := w) 58 3 i0 (.int .i64 0) Try.underlying58 hi hz0 .i64 .i64 6 6 (by omega) (by omega) (by rw [hz1]; omega) (by rw [hz2]; omega) (by omega)
  have e0 : (Value.int .i64 0).cells = #[Value.int .i64 0] := rfl
  have e : madeCells (Value.int .i64 0).cells (Int.toNat 6 * 1) = seenC fun _ => 0 := by
    apply Array.ext'
    rw [e0, toList_madeCells_one]; rfl
  rw [this, hz1, e]
  rfl
theorem DW.poke {w0 : World} {B : Nat} {w : World} {d : Nat} {S : Nat → Prop} {D : DiskP} (h : DW w0 B w d S D) (p : Addr) (v : Value) (hS : ¬ S p.block) (hB : B ≤ p.block) : DW w0 B (w.setCell p v) d S D :=
  ⟨h.disk.keep fun k hk => Below.heap_setCell _ _ _ _ fun e => hS (e ▸ hk), h.high, h.below.setCell hB v, by simp [World.setCell]; exact h.size⟩
theorem less_bytes {a b : List UInt8} (h : a < b) : Op.bytesLess (strOf a).toList (strOf b).toList = true := by
  rw [strOf_toList, strOf_toList, bytesLess_eq]; exact decide_eq_true h
set_option maxRecDepth 100000 in
set_option maxHeartbeats 16000000 in
theorem diskNames_walk (a0 : Option Addr) (len0 cap0 : Nat) (z0 : List Int) (a1 : Option Addr) (len1 cap1 : Nat) (z1 : List Int) (w : World) (w0 : IsRow .u8 w a0 len0 cap0 z0) (w1 : IsRow .u8 w a1 len1 cap1 z1) (r0 : cap0 ≤ 140737488355328) (r1 : cap1 ≤ 140737488355328) :
    Calls Try.prog 8 #[.slice a0 len0 cap0, .slice a1 len1 cap1] w fun e w' => e = .returned (.bool true) ∧ Below w.heap.size w w' := by
  obtain ⟨_, _, hlc0, hcm0, _⟩ := w0.bytes
  obtain ⟨_, _, hlc1, hcm1, _⟩ := w1.bytes
  have HK := hideIt (known12_any w)
  by_cases h50 : 50 < len1
  · have h50' : (50 : Int) < (len1 : Int) := by omega
    clear w0 w1 hcm0 hcm1 r0 r1 h50 hlc0 hlc1
    go_enter Try.func8, Try.ntmps8
    go_wp2_with fail
    refine HK.out.mono ?_
    rintro e w1 ⟨rfl, b1⟩
    go_wp2_with fail
    go_ret
    exact ⟨rfl, b1⟩
  have h50' : ¬ (50 : Int) < (len1 : Int) := by omega
  by_cases h40 : 40 < len0
  · have h40' : (40 : Int) < (len0 : Int) := by omega
    clear w0 w1 hcm0 hcm1 r0 r1 h40 hlc0 hlc1
    go_enter Try.func8, Try.ntmps8
    go_wp2_with fail
    refine HK.out.mono ?_
    rintro e w1 ⟨rfl, b1⟩
    go_wp2_with fail
    go_ret
    exact ⟨rfl, b1⟩
  have h40' : ¬ (40 : Int) < (len0 : Int) := by omega
  obtain ⟨bs0, hl0, _, hp0⟩ := row_piece w0 (by omega)
  obtain ⟨bs1, hl1, _, hp1⟩ := row_piece w1 (by omega)
  have HP0 := hideIt hp0
  have HP1 := hideIt hp1
  have HL0 := hideIt hl0
  have HL1 := hideIt hl1
  have HC0 : Hid (len0 ≤ 40) := hideIt (by omega)
  have HC1 : Hid (len1 ≤ 50) := hideIt (by omega)
  have HNW := hideIt (new_any 1048576 w)
  clear w0 w1 hcm0 hcm1 r0 r1 h40 h50 hlc0 hlc1 hp0 hp1 hl0 hl1 HK
  go_enter Try.func8, Try.ntmps8
  go_wp2_with fail
  refine HNW.out.mono ?_
  intro e u1 hnew
  obtain ⟨d, S0, rfl, hD0, _, _⟩ := DW.new (Below.refl _ _) hnew
  have hms := make_six u1
  have hs1 : SeenAt (u1.alloc (.cells (seenC fun _ => 0) 3)) u1.heap.size (fun _ => 0) := heap_alloc_new _ _
  have hD1 := hD0.more (below_new u1 (.cells (seenC fun _ => 0) 3))
  have hgb : w.heap.size ≤ u1.heap.size := hD0.size
  have hgs : ¬ S0 u1.heap.size := fun h => by have := hD0.disk.low _ h; omega
  generalize u1.alloc (.cells (seenC fun _ => 0) 3) = u2 at *
  generalize hgg : u1.heap.size = g at *
  have HS1 := hideIt hs1
  have HD1 := hideIt hD1
  have HGB := hideIt hgb
  have HGS := hideIt hgs
  clear hnew hD0 hs1 hD1 hgb hgs hgg
  go_wp2_with fail
  go_loopw [7] (fun iv wr => ∃ (i : Nat) (S : Nat → Prop) (D : DiskP) (cnt : Nat → Nat), iv = .int .i64 (i : Int) ∧ i ≤ len0 ∧ DW w w.heap.size wr d S D ∧ NmOk D len1 cnt i ∧ SeenAt wr g cnt ∧ ¬ S g ∧ ∀ j, cnt j ≤ i) (fun iv _ => len0 - (intOf iv).toNat)
  case atStart => exact ⟨0, S0, newP 1048576, fun _ => 0, rfl, by omega, HD1.out, NmOk.new _, HS1.out, HGS.out, fun _ => Nat.le_refl _⟩
  case round =>
    obtain ⟨i, S, D, cnt, rfl, hi, hD, hN, hs, hS, hcn⟩ := hrel
    by_cases hlt : i < len0
    · have hlt' : (i : Int) < (len0 : Int) := by omega
      have hwi : IntKind.i64.wrap ((i : Int) + 1) = (i : Int) + 1 := IntWalk.i64_in _ (by have := HC0.out; omega)
      obtain ⟨cb, co, ha0, hcb, hcc⟩ := HP0.out.bytes (by simp only; have := HL0.out; omega)
      simp only at ha0
      obtain ⟨x, hx⟩ : ∃ x, bs0[i]? = some x := ⟨_, List.getElem?_eq_getElem (by have := HL0.out; omega)⟩
      obtain ⟨hx1, hx2⟩ := List.getElem?_eq_some_iff.1 hx
      have hcell : w.cell? ⟨cb, co + i, none⟩ = some (.int .u8 (x.toNat : Int)) := by
        have := hcc i hx1
        rw [this]
        exact congrArg (fun y : UInt8 => some (Value.int .u8 (y.toNat : Int))) hx2
      obtain ⟨q, hq⟩ : ∃ q, x.toNat % 6 = q := ⟨_, rfl⟩
      have hq6 : q < 6 := by omega
      have hrm : Int.tmod ((x.toNat : Nat) : Int) 6 = (q : Int) := by rw [← hq]; rfl
      have hwq : IntKind.u8.wrap (q : Int) = (q : Int) := by rw [IntKind.wrap_u8]; omega
      have hwa : IntKind.u8.wrap (97 + (q : Int)) = 97 + (q : Int) := by rw [IntKind.wrap_u8]; omega
      have hcv := conv_one wr (97 + (q : Int))
      have hcat := nm_cat q (by omega)
      have hsz : (oneB (97 + (q : Int))).size = 1 := rfl
      have hcw : wr.cell? ⟨cb, co + i, none⟩ = some (.int .u8 (x.toNat : Int)) := (hD.below.cell (p := ⟨cb, co + i, none⟩) hcb).trans hcell
      have hDv := hD.more (below_new wr (.cells #[.int .u8 (97 + (q : Int))] 5))
      have hsv : SeenAt (wr.alloc (.cells #[.int .u8 (97 + (q : Int))] 5)) g cnt := (Below.heap_alloc wr _ g hs.lt).trans hs
      have hN1 := hN
      rw [← HL1.out] at hN1
      obtain ⟨D', hap, hN2⟩ := hN1.step hq6 (by have := HC0.out; omega) (by have := HL1.out; have := HC1.out; omega)
      rw [HL1.out] at hN2
      have HAP := hideIt (append_any hDv.disk (nmI q) (by simp [nmI]) a1 bs1 len1 cap1 (HP1.out.keep hDv.below) HL1.out (hDv.apart HP1.out))
      have HDV := hideIt hDv
      have HSV := hideIt hsv
      have HN2 := hideIt hN2
      have HAPP := hideIt hap
      have HCB := hideIt hcb
      have HCELL := hideIt hcell
      have HCN := hideIt hcn
      have HS := hideIt hS
      generalize ((x.toNat : Nat) : Int) = xi at *
      subst ha0
      clear hD hN hs hS hcc hx hx2 hcb hcell hDv hsv hN1 hN2 hap hcn hq hx1
      go_wp2_with fail
      refine HAP.out.mono ?_
      intro e w9 ha
      obtain ⟨rfl, S2, hD2, hT2, hS2⟩ := HDV.out.acts ha
      rw [HAPP.out] at hD2 ⊢
      have hs9 : SeenAt w9 g cnt := (hT2.block g HSV.out.lt HS.out).trans HSV.out
      have hS9 : ¬ S2 g := fun h => by
        rcases hS2 g h with h1 | h1
        · exact HS.out h1
        · have := HSV.out.lt; omega
      have hc9 : w9.cell? ⟨cb, co + i, none⟩ = some (.int .u8 xi) := (hD2.below.cell (p := ⟨cb, co + i, none⟩) HCB.out).trans HCELL.out
      have hcq := hs9.at hq6
      have hfq := hs9.fz q
      have hwc : IntKind.i64.wrap ((cnt q : Int) + 1) = (cnt q : Int) + 1 := IntWalk.i64_in _ (by have := HCN.out q; have := HC0.out; omega)
      have hq6' : (q : Int) < 6 := by omega
      have R : Hid (∃ (i' : Nat) (S : Nat → Prop) (D : DiskP) (cnt' : Nat → Nat), Value.int .i64 ((i : Int) + 1) = .int .i64 (i' : Int) ∧ i' ≤ len0 ∧ DW w w.heap.size (w9.setCell ⟨g, q, none⟩ (.int .i64 ((cnt q : Int) + 1))) d S D ∧ NmOk D len1 cnt' i' ∧ SeenAt (w9.setCell ⟨g, q, none⟩ (.int .i64 ((cnt q : Int) + 1))) g cnt' ∧ ¬ S g ∧ ∀ j, cnt' j ≤ i') := hideIt
        ⟨i + 1, S2, D', _, by simp, by omega, hD2.poke _ _ hS9 HGB.out, HN2.out, hs9.set hq6, hS9, fun j => by
          have := HCN.out j
          show (if j = q then cnt j + 1 else cnt j) ≤ i + 1
          split <;> omega⟩
      clear ha hD2 hT2 hS2 hs9 hS9 hcw hcv hcat
      generalize (cnt q : Int) = cq at *
      go_wp2_with fail
      go_roundw
      case rel => exact R.out
      case measure => simp [intOf]; omega
    · obtain rfl : i = len0 := by omega
      have HN := hideIt hN
      have HCN := hideIt hcn
      have HNM := hideIt (names_any hD.disk)
      have HDD := hideIt hD
      have HSS := hideIt hs
      clear hN hcn hD hs hlt
      go_wp2_with fail
      refine HNM.out.mono ?_
      rintro e w2 ⟨v, rfl, hv, hb2⟩
      obtain ⟨A, c, rfl, hc1, hc2, hSA⟩ := hv.open
      have hnl : (namesP D).length = cN cnt 6 := by rw [← HN.out.count]; simp [namesP]
      have hn6 : cN cnt 6 ≤ 6 := cN_le cnt 6
      have HD2 := hideIt (HDD.out.more hb2)
      have HS2 : Hid (SeenAt w2 g cnt) := hideIt ((hb2.block g HSS.out.lt).trans HSS.out)
      have HSA := hideIt hSA
      have HNL := hideIt hnl
      rw [hnl]
      clear hv hb2 hSA hc1 hc2 hnl
      have HNN := hideIt hn6
      have HSG := hideIt hS
      clear hn6 hi HNM hS
      go_wp2_with fail
      generalize i = lc at *
      generalize wr = wa at *
      go_loopw [9, 10] (fun nv iv wr => ∃ (i : Nat), nv = .int .i64 ((cN cnt i : Nat) : Int) ∧ iv = .int .i64 (i : Int) ∧ i ≤ 6 ∧ DW w w.heap.size wr d S D ∧ SeenAt wr g cnt ∧ Below w2.heap.size w2 wr) (fun _ iv _ => 6 - (intOf iv).toNat)
      case atStart => exact ⟨0, rfl, rfl, by omega, HD2.out, HS2.out, Below.refl _ _⟩
      case round =>
        obtain ⟨i, rfl, rfl, hi, hD, hs, hb⟩ := hrel
        by_cases hlt : i < 6
        · have hlt' : (i : Int) < 6 := by omega
          have hwi : IntKind.i64.wrap ((i : Int) + 1) = (i : Int) + 1 := IntWalk.i64_in _ (by omega)
          have hwu : IntKind.u8.wrap (i : Int) = (i : Int) := by rw [IntKind.wrap_u8]; omega
          have hwa : IntKind.u8.wrap (97 + (i : Int)) = 97 + (i : Int) := by rw [IntKind.wrap_u8]; omega
          have hcv := conv_one wr (97 + (i : Int))
          have hcat := nm_cat i (by omega)
          have hsz : (oneB (97 + (i : Int))).size = 1 := rfl
          have hbn := below_new wr (.cells #[.int .u8 (97 + (i : Int))] 5)
          have hDv := hD.more hbn
          have hsv : SeenAt (wr.alloc (.cells #[.int .u8 (97 + (i : Int))] 5)) g cnt := (Below.heap_alloc wr _ g hs.lt).trans hs
          have HRD := hideIt (read_any hDv.disk (nmI i))
          have HDV := hideIt hDv
          have HSV := hideIt hsv
          have HBV := hideIt (hb.trans (hbn.mono hb.size))
          have HEA := hideIt (HN.out.each i hlt)
          have HCI : Hid (cN cnt (i + 1) = cN cnt i + (if 0 < cnt i then 1 else 0)) := hideIt (cN_succ cnt i)
          have HCL := hideIt (cN_le cnt i)
          have HCQ := hideIt (HCN.out i)
          clear hD hs hb hDv hsv hbn
          go_wp2_with fail
          refine HRD.out.mono ?_
          rintro e w5 ⟨v, rfl, hv, hb5⟩
          rw [HEA.out.1]
          obtain ⟨L, hL⟩ : ∃ L, (readL D (nmI i)).length = L := ⟨_, rfl⟩
          rw [hL] at hv
          have hLm : L = cnt i * len1 := by rw [← hL]; exact HEA.out.2
          obtain ⟨A5, c5, rfl, _⟩ := own_open hv
          have hD5 := HDV.out.more hb5
          have hs5 : SeenAt w5 g cnt := (hb5.block g HSV.out.lt).trans HSV.out
          have hB5 := HBV.out.trans (hb5.mono HBV.out.size)
          have hcq := hs5.at hlt
          by_cases hpos : 0 < cnt i
          · rw [decide_eq_true hpos]
            have R : Hid (∃ (i' : Nat), Value.int .i64 (((cN cnt i : Nat) : Int) + 1) = .int .i64 ((cN cnt i' : Nat) : Int) ∧ Value.int .i64 ((i : Int) + 1) = .int .i64 (i' : Int) ∧ i' ≤ 6 ∧ DW w w.heap.size w5 d S D ∧ SeenAt w5 g cnt ∧ Below w2.heap.size w2 w5) := hideIt
              ⟨i + 1, by rw [HCI.out, if_pos hpos]; simp, by simp, by omega, hD5, hs5, hB5⟩
            have hwn : IntKind.i64.wrap (((cN cnt i : Nat) : Int) + 1) = ((cN cnt i : Nat) : Int) + 1 := IntWalk.i64_in _ (by have := HCL.out; omega)
            have hmul : cnt i * len1 ≤ 40 * 50 := Nat.mul_le_mul (by have := HCQ.out; have := HC0.out; omega) HC1.out
            have hwm : IntKind.i64.wrap ((cnt i : Int) * (len1 : Int)) = (L : Int) := by
              have e1 : (cnt i : Int) * (len1 : Int) = (L : Int) := by rw [hLm]; simp
              rw [e1]; exact IntWalk.i64_in _ (by omega)
            have hp' : (0 : Int) < (cnt i : Int) := by omega
            clear hv hb5 hD5 hs5 hB5 hL hLm hmul hpos hcv hcat
            generalize (cnt i : Int) = cq at *
            generalize ((cN cnt i : Nat) : Int) = nn at *
            go_wp2_with fail
            go_roundw
            case rel => exact R.out
            case measure => simp [intOf]; omega
          · have hz : cnt i = 0 := by omega
            rw [decide_eq_false hpos]
            have R : Hid (∃ (i' : Nat), Value.int .i64 ((cN cnt i : Nat) : Int) = .int .i64 ((cN cnt i' : Nat) : Int) ∧ Value.int .i64 ((i : Int) + 1) = .int .i64 (i' : Int) ∧ i' ≤ 6 ∧ DW w w.heap.size w5 d S D ∧ SeenAt w5 g cnt ∧ Below w2.heap.size w2 w5) := hideIt
              ⟨i + 1, by rw [HCI.out, if_neg hpos]; simp, by simp, by omega, hD5, hs5, hB5⟩
            rw [hz, Nat.zero_mul] at hLm
            subst hLm
            rw [hz] at hcq
            have hcq' : w5.cell? ⟨g, i, none⟩ = some (.int .i64 0) := hcq
            clear hv hb5 hD5 hs5 hB5 hL hpos hcv hcat hz hcq
            generalize ((cN cnt i : Nat) : Int) = nn at *
            go_wp2_with fail
            go_roundw
            case rel => exact R.out
            case measure => simp [intOf]; omega
        · obtain rfl : i = 6 := by omega
          obtain ⟨nl, hnl⟩ : ∃ nl, cN cnt 6 = nl := ⟨_, rfl⟩
          have HD := hideIt hD
          have HB := hideIt hb
          have hN6 := HNN.out
          rw [hnl] at hN6 ⊢
          rw [hnl] at HNL
          have HN6 := hideIt hN6
          clear hD hs hb hlt hi hnl hN6
          go_wp2_with fail
          generalize wr = wz at *
          go_loopw [13] (fun iv wr => ∃ (i : Nat), iv = .int .i64 (i : Int) ∧ 1 ≤ i ∧ i ≤ 7 ∧ DW w w.heap.size wr d S D ∧ Below w2.heap.size w2 wr) (fun iv _ => nl - (intOf iv).toNat)
          case atStart => exact ⟨1, rfl, by omega, by omega, HD.out, HB.out⟩
          case round =>
            obtain ⟨i, rfl, hi1, hi7, hD, hb⟩ := hrel
            by_cases hlt : i < nl
            · obtain ⟨p, hp⟩ : ∃ p, i = p + 1 := ⟨i - 1, by omega⟩
              have hlt' : (i : Int) < (nl : Int) := by omega
              have hwi : IntKind.i64.wrap ((i : Int) + 1) = (i : Int) + 1 := IntWalk.i64_in _ (by omega)
              have hwp : IntKind.i64.wrap ((i : Int) - 1) = (p : Int) := by rw [IntWalk.i64_in _ (by omega)]; omega
              have hpl : (p : Int) < (nl : Int) := by omega
              obtain ⟨gb, hA, hgb, hcs⟩ := HSA.out (by rw [HNL.out]; omega)
              subst hA
              have hl1 : p < (namesP D).length := by rw [HNL.out]; omega
              have hl2 : i < (namesP D).length := by rw [HNL.out]; omega
              obtain ⟨sp, hsp⟩ : ∃ sp, (namesP D)[p] = sp := ⟨_, rfl⟩
              obtain ⟨si, hsi⟩ : ∃ si, (namesP D)[i] = si := ⟨_, rfl⟩
              have hle : sp < si := by
                rw [← hsp, ← hsi]
                exact List.pairwise_iff_getElem.1 (names_rise HN.out.ok.rise) p i hl1 hl2 (by omega)
              have hless := less_bytes hle
              have q1 : wr.cell? ⟨gb, p, none⟩ = some (.string (strOf sp)) := (hb.cell (p := ⟨gb, p, none⟩) hgb).trans (hcs p sp (by rw [List.getElem?_eq_getElem hl1, hsp]))
              have q2 : wr.cell? ⟨gb, i, none⟩ = some (.string (strOf si)) := (hb.cell (p := ⟨gb, i, none⟩) hgb).trans (hcs i si (by rw [List.getElem?_eq_getElem hl2, hsi]))
              have d1 : wr.drew.cell? ⟨gb, p, none⟩ = some (.string (strOf sp)) := q1
              have d2' : wr.drew.cell? ⟨gb, i, none⟩ = some (.string (strOf si)) := q2
              have R : Hid (∃ (i' : Nat), Value.int .i64 ((i : Int) + 1) = .int .i64 (i' : Int) ∧ 1 ≤ i' ∧ i' ≤ 7 ∧ DW w w.heap.size wr.drew d S D ∧ Below w2.heap.size w2 wr.drew) := hideIt
                ⟨i + 1, by simp, by omega, by have := HN6.out; omega, hD.more (Below.refl _ _).drew, hb.drew⟩
              clear hcs hsp hsi hle hp hl1 hl2 hb hD hgb
              go_wp2
              go_region
              go_wp2
              go_roundw
              case rel => exact R.out
              case measure => simp [intOf]; omega
            · have hnlt : (nl : Int) ≤ (i : Int) := by omega
              have hmul : lc * len1 ≤ 40 * 50 := Nat.mul_le_mul HC0.out HC1.out
              obtain ⟨U, hU⟩ : ∃ U, usedP D.files = U := ⟨_, rfl⟩
              have hUm : U = lc * len1 := by rw [← hU]; exact HN.out.used
              have hwm : IntKind.i64.wrap ((lc : Int) * (len1 : Int)) = (U : Int) := by
                have e1 : (lc : Int) * (len1 : Int) = (U : Int) := by rw [hUm]; simp
                rw [e1]; exact IntWalk.i64_in _ (by omega)
              have HKN := hideIt (known12_any wr)
              have HDW := hideIt hD
              have HU := hideIt hU
              clear hmul hUm hU hD hb hlt hi1 hi7
              go_wp2_with fail
              refine HKN.out.mono ?_
              rintro e w6 ⟨rfl, hb6⟩
              have HD6 := hideIt (HDW.out.more hb6)
              have HUS := hideIt (used_any HD6.out.disk)
              rw [HU.out] at HUS
              clear hb6
              go_wp2_with fail
              refine HUS.out.mono ?_
              rintro e w7 ⟨rfl, hb7⟩
              have HD7 := hideIt (HD6.out.more hb7)
              clear hb7
              go_wp2_with fail
              go_ret
              exact ⟨rfl, HD7.out.below⟩
end Go.Proofs.Ythpbhfepiekchaa
