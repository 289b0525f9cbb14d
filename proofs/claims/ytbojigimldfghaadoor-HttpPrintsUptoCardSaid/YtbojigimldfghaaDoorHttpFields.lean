/- Contracts of http.fieldsOf and http.size. -/
import Derived.Test.YtbojigimldfghaaDoorHttpAsked
import Derived.Test.YtbojigimldfghaaDoorHeadField
import Derived.Test.YtbojigimldfghaaDoorPairOne
import Derived.Test.YtbojigimldfghaaDoorNumDec
namespace Go.Proofs.YtbojigimldfghaaDoor
open Go.ChangeShapes Go.WideShapes Go.ChangeAt Go.RowKit
set_option linter.unusedVariables false
set_option linter.unusedSimpArgs false

/-- texts that can be read, from whatever place of a block on -/
def StrsOff (w : World) (A : Option Addr) (ps : List (List UInt8)) : Prop :=
  0 < ps.length → ∃ b off, A = some ⟨b, off, none⟩ ∧ b < w.heap.size ∧ ∀ j p, ps[j]? = some p → w.cell? ⟨b, off + j, none⟩ = some (.string (strOf p))
theorem StrsOff.keep {w w' : World} {A : Option Addr} {ps : List (List UInt8)} (h : StrsOff w A ps) (hb : Below w.heap.size w w') : StrsOff w' A ps := fun hn => by
  obtain ⟨b, off, e, hlt, hc⟩ := h hn
  exact ⟨b, off, e, Nat.lt_of_lt_of_le hlt hb.size, fun j p hj => (hb.cell (p := ⟨b, off + j, none⟩) hlt).trans (hc j p hj)⟩
theorem StrsAt.off {w : World} {A : Option Addr} {ps : List (List UInt8)} (h : StrsAt w A ps) : StrsOff w A ps := fun hn => by
  obtain ⟨b, e, hlt, hc⟩ := h hn
  exact ⟨b, 0, e, hlt, fun j p hj => by rw [Nat.zero_add]; exact hc j p hj⟩
/-- x[1:] of texts -/
theorem slice_strs (A : Option Addr) (m c : Nat) (h1 : 1 ≤ m) (h2 : m ≤ c) : ∃ A1, (∀ w, (Instr.slice 47 (.slice A m c) (some (.int .i64 1)) none none).run Tryd.prog w = .ok (.slice A1 (m - 1) (c - 1)) w) ∧
    (∀ w ps, ps.length = m → StrsAt w A ps → StrsOff w A1 (ps.drop 1)) := by
  obtain ⟨i0, hi, hz0, hz1, hz2⟩ := info_parts info_string
  have e1 : (0 : Int) ≤ 1 ∧ (1 : Int) ≤ (m : Int) := by omega
  refine ⟨if c = 1 then A else A.map (·.add (1 * 1)), fun w => ?_, fun w ps hm hb hn => ?_⟩
  · simp [Instr.slice, Instr.sliceBounds, Instr.sliceBound, asIntOf, run_underlying Tryd.underlying47, sizeOf, typeInfo, hi, hz1, e1]
  · rw [List.length_drop] at hn
    obtain ⟨b, rfl, hlt, hc⟩ := hb (by omega)
    refine ⟨b, 1, ?_, hlt, fun j p hj => ?_⟩
    · rw [if_neg (by omega)]; simp [Addr.add]
    · rw [List.getElem?_drop] at hj
      exact hc _ _ hj
theorem bad_at {ls : List (List UInt8)} {j : Nat} {x : List UInt8} (h : ∀ y ∈ ls.take j, (fieldL y).2 = 0) (hx : ls[j]? = some x) (hb : (fieldL x).2 ≠ 0) : badL ls = some x := by
  have e : ls = ls.take j ++ x :: ls.drop (j + 1) := by
    obtain ⟨h1, h2⟩ := List.getElem?_eq_some_iff.1 hx
    conv => lhs; rw [← List.take_append_drop j ls, List.drop_eq_getElem_cons h1, h2]
  unfold badL
  rw [e, List.find?_append, List.find?_eq_none.2 (fun y hy => by simp [h y hy])]
  simp [hb]
theorem bad_none {ls : List (List UInt8)} (h : ∀ y ∈ ls, (fieldL y).2 = 0) : badL ls = none := List.find?_eq_none.2 fun y hy => by simp [h y hy]
/-- the fields of the first so many lines -/
def doneL (ls : List (List UInt8)) (j : Nat) : List PairL := (ls.take j).map fun x => (fieldL x).1
theorem done_succ (ls : List (List UInt8)) (j : Nat) (x : List UInt8) (h : ls[j]? = some x) : doneL ls (j + 1) = doneL ls j ++ [(fieldL x).1] := by
  unfold doneL
  rw [List.take_add_one, List.map_append, h]
  rfl
theorem done_len (ls : List (List UInt8)) (j : Nat) : (doneL ls j).length ≤ j := by simp [doneL]; omega
theorem take_succ_all {ls : List (List UInt8)} {j : Nat} {x : List UInt8} (h : ∀ y ∈ ls.take j, (fieldL y).2 = 0) (hx : ls[j]? = some x) (hb : (fieldL x).2 = 0) : ∀ y ∈ ls.take (j + 1), (fieldL y).2 = 0 := by
  intro y hy
  rw [List.take_add_one, hx] at hy
  rcases List.mem_append.1 hy with h1 | h1
  · exact h y h1
  · simp at h1
    rw [h1]; exact hb
set_option maxRecDepth 8000 in
set_option maxHeartbeats 4000000 in
theorem fieldsOf_any (A : Option Addr) (n c : Nat) (ls : List (List UInt8)) (w : World) (hp : StrsOff w A ls) (hn : ls.length = n) (hx : ∀ x ∈ ls, x.length ≤ 100000) (hnn : n ≤ 100000) :
    Calls Tryd.prog 52 #[.slice A n c] w fun e w' => (∃ v, e = endE (fieldsL ls).2 v ∧ ((fieldsL ls).2 = 0 → POwn w.heap.size v (fieldsL ls).1 w')) ∧ Below w.heap.size w w' := by
  obtain ⟨RR, hRR⟩ : ∃ R, fieldsL ls = R := ⟨_, rfl⟩
  have HR := hideIt hRR
  rw [hRR]
  clear hRR
  by_cases h40 : 40 < n
  · have E : Hid (RR = ([], 3)) := hideIt (by rw [← HR.out, fieldsL, if_pos (by omega)])
    have h1 : ¬ (n : Int) ≤ 40 := by omega
    have HN := hideIt (fun w => need_bad 3 w)
    go_enter Tryd.func52, Tryd.ntmps52
    go_wp2_with fail
    refine (HN.out _).mono ?_
    rintro e w1 ⟨rfl, rfl⟩
    go_wp2_with fail
    refine ⟨rfl, ⟨undef, by rw [E.out]; rfl, fun h => by rw [E.out] at h; cases h⟩, Below.refl _ _⟩
  have h1 : (n : Int) ≤ 40 := by omega
  have HN := hideIt (fun w => need_ok 3 w)
  have HP := hideIt hp
  have HX := hideIt hx
  have HL := hideIt hn
  clear hp hx hn hnn
  go_enter Tryd.func52, Tryd.ntmps52
  go_wp2_with fail
  refine (HN.out _).mono ?_
  rintro e w1 ⟨rfl, rfl⟩
  go_wp2_with fail
  go_loopw [3, 14] (fun v i wr => ∃ j : Nat, j ≤ n ∧ i = .int .i64 (j : Int) ∧ POwn w.heap.size v (doneL ls j) wr ∧ (∀ y ∈ ls.take j, (fieldL y).2 = 0) ∧ Below w.heap.size w wr) (fun v i wr => n - (intOf i).toNat)
  case atStart => exact ⟨0, by omega, rfl, POwn.nil _ _, by simp, Below.refl _ _⟩
  case round =>
    obtain ⟨j, hj, rfl, ho, ha, hb⟩ := hrel
    have HO := hideIt ho
    have HA := hideIt ha
    have HB := hideIt hb
    clear ho ha hb
    have hdl := done_len ls j
    by_cases hlt : j < n
    · have hji : (j : Int) < (n : Int) := by omega
      obtain ⟨x, hxj⟩ : ∃ x, ls[j]? = some x := ⟨_, List.getElem?_eq_getElem (by have := HL.out; omega)⟩
      obtain ⟨b, off, rfl, hlt2, hc⟩ := (HP.out.keep HB.out) (by have := HL.out; omega)
      have c1 := hc j x hxj
      have HF := hideIt (fun w => field_any x w (by have := HX.out x (List.mem_of_getElem? hxj); omega))
      have DS := hideIt (done_succ ls j x hxj)
      have HXJ := hideIt hxj
      have hwj : IntKind.i64.wrap ((j : Int) + 1) = (j : Int) + 1 := IntWalk.i64_in _ (by omega)
      clear hc hxj
      by_cases hz : (fieldL x).2 = 0
      · have TS := hideIt (take_succ_all HA.out HXJ.out hz)
        rw [hz] at HF
        generalize (fieldL x).1 = p at *
        have HNO := hideIt (fun w => need_ok 0 w)
        unfold pairV errV at HF
        clear hz
        generalize doneL ls j = done at *
        go_wp2_with fail
        refine (HF.out _).mono ?_
        rintro e u1 ⟨rfl, hb1⟩
        have P1 := hideIt (PCell.new u1 p)
        have B1 := hideIt (below_then (below_then HB.out hb1) (below_new u1 (.cells #[.string (strOf p.1), .string (strOf p.2)] 40)))
        have O1 := hideIt ((HO.out.keep hb1).keep (below_new u1 (.cells #[.string (strOf p.1), .string (strOf p.2)] 40)))
        have q0 := P1.out.cell0
        have q1 := P1.out.cell1
        clear hb1 HB HO HF
        go_wp2_with fail
        generalize u1.alloc (.cells #[.string (strOf p.1), .string (strOf p.2)] 40) = X1 at *
        generalize u1.heap.size = g1 at *
        refine (HNO.out _).mono ?_
        rintro e u2 ⟨rfl, rfl⟩
        have hdl' : Hid (done.length ≤ 1000) := hideIt (by omega)
        go_wp2_with (at_builtin; refine wpList_appP1 rfl (.tmp 27) (.tmp 29) rfl w.heap.size _ done p rfl O1.out rfl hdl'.out B1.out.size ?_)
        intro v4 w4 o4 g4
        have O4 := hideIt o4
        have B4 : Hid (Below w.heap.size w w4) := hideIt (B1.out.trans (g4 _ (Nat.le_refl _)))
        clear o4 g4 q0 q1 P1 B1 O1
        go_wp2_with fail
        go_roundw
        case rel => exact ⟨j + 1, by omega, by go_num, by rw [DS.out]; exact O4.out, TS.out, B4.out⟩
        case measure => simp [intOf]; omega
      · have E : Hid (RR = ([], (fieldL x).2)) := hideIt (by rw [← HR.out, fieldsL, if_neg (by have := HL.out; omega), bad_at HA.out HXJ.out hz])
        obtain ⟨m, hm⟩ : ∃ m, (fieldL x).2 = m := ⟨_, rfl⟩
        rw [hm] at HF E hz
        have hne : ((m : Int) == 0) = false := by rw [beq_eq_false_iff_ne]; omega
        have HZ := hideIt hz
        generalize (fieldL x).1 = p at *
        have HNB := hideIt (fun w => need_bad m w)
        unfold pairV errV at HF
        clear hm hz DS
        generalize doneL ls j = done at *
        go_wp2_with fail
        refine (HF.out _).mono ?_
        rintro e u1 ⟨rfl, hb1⟩
        have B1 := hideIt (below_then (below_then HB.out hb1) (below_new u1 (.cells #[.string (strOf p.1), .string (strOf p.2)] 40)))
        clear hb1 HB HO HF
        go_wp2_with fail
        refine (HNB.out _).mono ?_
        rintro e u2 ⟨rfl, rfl⟩
        go_wp2_with fail
        refine ⟨rfl, ⟨undef, by rw [E.out]; unfold endE; rw [if_neg HZ.out], fun h => by rw [E.out] at h; exact absurd h HZ.out⟩, B1.out⟩
    · obtain rfl : j = n := by omega
      have E : Hid (RR = (doneL ls j, 0)) := hideIt (by
        have ht : ls.take j = ls := List.take_of_length_le (by have := HL.out; omega)
        have := HA.out
        rw [ht] at this
        rw [← HR.out, fieldsL, if_neg (by have := HL.out; omega), bad_none this, doneL, ht])
      go_wp2_with fail
      go_ret
      exact ⟨⟨_, by rw [E.out]; rfl, fun _ => by rw [E.out]; exact HO.out⟩, HB.out⟩
theorem go_fieldsOf : goFn Tryd.prog 52 = true := by kernel_rfl

/-- what size answers -/
def endN (o : Option Nat) : Ending := match o with | some n => .returned (.int .i64 (n : Int)) | none => .panicked [wrongE 13]
set_option maxRecDepth 8000 in
set_option maxHeartbeats 2000000 in
theorem size_any (A : Option Addr) (n c : Nat) (ts : List (List UInt8)) (w : World) (hp : StrsAt w A ts) (hn : ts.length = n) (hx : ∀ x ∈ ts, x.length ≤ 100000) :
    Calls Tryd.prog 54 #[.slice A n c] w fun e w' => e = endN (wantL ts) ∧ Below w.heap.size w w' := by
  subst hn
  cases ts with
  | nil =>
    go_enter Tryd.func54, Tryd.ntmps54
    go_wp2_with fail
    go_ret
    exact ⟨rfl, Below.refl _ _⟩
  | cons t r =>
    obtain ⟨b, rfl, hlt, hc⟩ := hp (by simp)
    have c0 := hc 0 t rfl
    have hl := hx t (by simp)
    have hsz := strOf_size t
    have HD := hideIt (fun w => dec_any (strOf t) 4000 w (by unfold maxLen; omega) (by decide))
    have hne : (((t :: r).length : Int) == 0) = false := by rw [beq_eq_false_iff_ne, List.length_cons]; omega
    have hgt : (0 : Int) < ((t :: r).length : Int) := by rw [List.length_cons]; omega
    have hdt : (strOf t).data.toList = t := by simp [strOf]
    rw [hdt] at HD
    have EW : Hid (wantL (t :: r) = if decB t 4000 then some (decN t) else none) := hideIt rfl
    have hzz : Hid (decB t 4000 = true → decV t 4000 = (decN t : Int)) := hideIt fun h => by unfold decV; rw [if_pos h]
    generalize (t :: r).length = n at *
    generalize wantL (t :: r) = RR at *
    clear hdt hsz hl hc hp hx
    cases hd : decB t 4000
    · rw [hd] at HD EW
      have HNB := hideIt (fun w => need_bad 13 w)
      generalize decV t 4000 = dv at *
      go_enter Tryd.func54, Tryd.ntmps54
      go_wp2_with fail
      refine (HD.out _).mono ?_
      rintro e u1 ⟨rfl, hb1⟩
      have B1 := hideIt hb1
      clear hb1
      go_wp2_with fail
      refine (HNB.out _).mono ?_
      rintro e u2 ⟨rfl, rfl⟩
      go_wp2_with fail
      exact ⟨rfl, by rw [EW.out]; rfl, B1.out⟩
    · rw [hd, hzz.out hd] at HD
      rw [hd] at EW
      have HNO := hideIt (fun w => need_ok 13 w)
      generalize decN t = dn at *
      go_enter Tryd.func54, Tryd.ntmps54
      go_wp2_with fail
      refine (HD.out _).mono ?_
      rintro e u1 ⟨rfl, hb1⟩
      have B1 := hideIt hb1
      clear hb1
      go_wp2_with fail
      refine (HNO.out _).mono ?_
      rintro e u2 ⟨rfl, rfl⟩
      go_wp2_with fail
      go_ret
      exact ⟨by rw [EW.out]; rfl, B1.out⟩
theorem go_size : goFn Tryd.prog 54 = true := by kernel_rfl
end Go.Proofs.YtbojigimldfghaaDoor
