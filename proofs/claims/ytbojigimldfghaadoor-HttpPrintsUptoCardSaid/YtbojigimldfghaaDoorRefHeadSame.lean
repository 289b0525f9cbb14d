/- Contracts of the reference's small, Same, All, SameTexts. -/
import Derived.Test.YtbojigimldfghaaDoorHeadPlain
import Derived.Test.YtbojigimldfghaaDoorTexts
import Derived.Test.YtbojigimldfghaaDoorPairCell
import Derived.Deep.Cut
import Derived.Handy
namespace Go.Proofs.YtbojigimldfghaaDoor
open Go.ChangeShapes Go.WideShapes Go.ChangeAt Go.RowKit
set_option linter.unusedVariables false
set_option linter.unusedSimpArgs false

theorem small_big (c : UInt8) (h : 65 ≤ c.toNat ∧ c.toNat ≤ 90) : (smallB c).toNat = c.toNat + 32 := by
  revert h
  refine each_byte (p := fun c => 65 ≤ c.toNat ∧ c.toNat ≤ 90 → (smallB c).toNat = c.toNat + 32) ?_ c
  decide +kernel
theorem small_not (c : UInt8) (h : ¬ (65 ≤ c.toNat ∧ c.toNat ≤ 90)) : (smallB c).toNat = c.toNat := by
  revert h
  refine each_byte (p := fun c => ¬ (65 ≤ c.toNat ∧ c.toNat ≤ 90) → (smallB c).toNat = c.toNat) ?_ c
  decide +kernel
set_option maxHeartbeats 1000000 in
theorem refsmall_any (c : UInt8) (w : World) :
    Calls Tryd.prog 74 #[.int .u8 (c.toNat : Int)] w fun e w' => e = .returned (.int .u8 ((smallB c).toNat : Int)) ∧ w = w' := by
  have hcl := c.toNat_lt
  have HB := hideIt (small_big c)
  have HN := hideIt (small_not c)
  generalize (smallB c).toNat = s at *
  generalize c.toNat = u at *
  rcases (by omega : u < 65 ∨ (65 ≤ u ∧ u ≤ 90) ∨ 90 < u) with h1 | h1 | h1
  · have E := hideIt (HN.out (by omega))
    have q1 : ¬ (65 : Int) ≤ (u : Int) := by omega
    clear h1 HB HN
    go_enter Tryd.func74, Tryd.ntmps74
    go_wp2_with fail
    go_ret
    exact ⟨by rw [E.out]; rfl, rfl⟩
  · have E := hideIt (HB.out h1)
    have q1 : (65 : Int) ≤ (u : Int) := by omega
    have q2 : (u : Int) ≤ 90 := by omega
    have hw : IntKind.u8.wrap ((u : Int) + 32) = (u : Int) + 32 := by rw [IntKind.wrap_u8']; omega
    clear h1 HB HN
    go_enter Tryd.func74, Tryd.ntmps74
    go_wp2_with fail
    go_ret
    exact ⟨by rw [E.out]; simp, rfl⟩
  · have E := hideIt (HN.out (by omega))
    have q1 : (65 : Int) ≤ (u : Int) := by omega
    have q2 : ¬ (u : Int) ≤ 90 := by omega
    clear h1 HB HN
    go_enter Tryd.func74, Tryd.ntmps74
    go_wp2_with fail
    go_ret
    exact ⟨by rw [E.out]; rfl, rfl⟩
theorem go_refsmall : goFn Tryd.prog 74 = true := by kernel_rfl
theorem same_step {a b : List UInt8} {j : Nat} (h : smallL (a.take j) = smallL (b.take j)) (h1 : j < a.length) (h2 : j < b.length) (e : smallB a[j] = smallB b[j]) : smallL (a.take (j + 1)) = smallL (b.take (j + 1)) := by
  unfold smallL at h ⊢
  rw [List.take_succ_eq_append_getElem h1, List.take_succ_eq_append_getElem h2, List.map_append, List.map_append, h]
  simp [e]
theorem same_miss {a b : List UInt8} {j : Nat} (h1 : j < a.length) (h2 : j < b.length) (e : ¬ smallB a[j] = smallB b[j]) : sameL a b = false := by
  refine decide_eq_false fun h => e ?_
  have := congrArg (fun l : List UInt8 => l[j]?) h
  simpa [smallL, List.getElem?_map, List.getElem?_eq_getElem h1, List.getElem?_eq_getElem h2] using this
theorem same_end {a b : List UInt8} (hl : a.length = b.length) (h : smallL (a.take a.length) = smallL (b.take a.length)) : sameL a b = true := by
  rw [List.take_length, hl, List.take_length] at h
  exact decide_eq_true h
set_option maxRecDepth 8000 in
set_option maxHeartbeats 2000000 in
theorem refsame8_any (la lb : List UInt8) (w : World) (hl : la.length = lb.length → la.length ≤ 1000000) (ha : la.length ≤ 140737488355328) (hb : lb.length ≤ 140737488355328) :
    Calls Tryd.prog 61 #[.string (strOf la), .string (strOf lb)] w fun e w' => e = .returned (.bool (sameL la lb)) ∧ Below w.heap.size w w' := by
  have z1 := strOf_size la
  have z2 := strOf_size lb
  by_cases hlen : la.length = lb.length
  · have hla := hl hlen
    have HLEN := hideIt hlen
    obtain ⟨R, hR⟩ : ∃ R, sameL la lb = R := ⟨_, rfl⟩
    rw [hR]
    have HR := hideIt hR
    have hi : ((la.length : Int) == (lb.length : Int)) = true := by rw [beq_iff_eq]; omega
    clear hR hl ha hb hlen
    go_enter Tryd.func61, Tryd.ntmps61
    go_wp2
    go_loopw [5] (fun i wr => ∃ j : Nat, j ≤ la.length ∧ i = .int .i64 (j : Int) ∧ smallL (la.take j) = smallL (lb.take j) ∧ Below w.heap.size w wr) (fun i wr => la.length - (intOf i).toNat)
    case atStart => exact ⟨0, by omega, rfl, rfl, Below.refl _ _⟩
    case round =>
      obtain ⟨j, hj, rfl, ht, hbw⟩ := hrel
      have HT := hideIt ht
      have HBW := hideIt hbw
      clear ht hbw
      have hwj : IntKind.i64.wrap ((j : Int) + 1) = (j : Int) + 1 := IntWalk.i64_in _ (by omega)
      by_cases hlt : j < la.length
      · have hlt' : (j : Int) < (la.length : Int) := by omega
        have hlb : j < lb.length := by have := HLEN.out; omega
        obtain ⟨ca, hca⟩ : ∃ c, la[j]? = some c := ⟨_, List.getElem?_eq_getElem hlt⟩
        obtain ⟨cb, hcb⟩ : ∃ c, lb[j]? = some c := ⟨_, List.getElem?_eq_getElem hlb⟩
        have Hca := hideIt hca
        have Hcb := hideIt hcb
        have ea : la[j] = ca := (List.getElem?_eq_some_iff.1 hca).2
        have eb : lb[j] = cb := (List.getElem?_eq_some_iff.1 hcb).2
        by_cases he : smallB ca = smallB cb
        · have HN := hideIt (same_step HT.out hlt hlb (by rw [ea, eb]; exact he))
          have HD : Hid (decide (((smallB ca).toNat : Int) = ((smallB cb).toNat : Int)) = true) := hideIt (by rw [he]; simp)
          clear he hlb hca hcb ea eb
          go_wp2_with fail
          refine region_inv [Fact.str (la), Fact.is (.int .i64 ((j : Nat) : Int)), Fact.is (.int .u8 ((ca).toNat : Int)), Fact.is (.int .u8 ((smallB ca).toNat : Int)), Fact.str (lb), Fact.is (.int .i64 ((j : Nat) : Int)), Fact.is (.int .u8 ((cb).toNat : Int)), Fact.is (.int .u8 ((smallB cb).toNat : Int)), Fact.is (.bool false)] (by kernel_rfl) (by kernel_rfl) ⟨fun a w1 m => ?_, fun a w1 m => ?_, fun a w1 m => ?_, fun a w1 m => ?_, fun a w1 m => ?_, fun a w1 m => ?_, fun a w1 m => ?_, fun a w1 m => ?_, fun a w1 m => ?_, trivial⟩ ?_
          · exact ok_move (wanted_none rfl) (.tmp 0) rfl (m.old 0 rfl)
          · exact ok_move (wanted_none rfl) (.tmp 5) rfl (m.old 5 rfl)
          · exact ok_strindex (wanted_none rfl) (.tmp 17) (.tmp 18) rfl la .i64 j (m.has 0 17 rfl rfl) (m.has 1 18 rfl rfl) _ Hca.out
          · exact ok_fn (wanted_none rfl) _ _ _ rfl _ (map1 (m.has 2 19 rfl rfl)) go_refsmall (refsmall_any ca w1) (fun e w' ⟨h1, h2⟩ => ⟨_, h1, rfl, h2 ▸ Grew.refl _⟩)
          · exact ok_move (wanted_none rfl) (.tmp 1) rfl (m.old 1 rfl)
          · exact ok_move (wanted_none rfl) (.tmp 5) rfl (m.old 5 rfl)
          · exact ok_strindex (wanted_none rfl) (.tmp 21) (.tmp 22) rfl lb .i64 j (m.has 4 21 rfl rfl) (m.has 5 22 rfl rfl) _ Hcb.out
          · exact ok_fn (wanted_none rfl) _ _ _ rfl _ (map1 (m.has 6 23 rfl rfl)) go_refsmall (refsmall_any cb w1) (fun e w' ⟨h1, h2⟩ => ⟨_, h1, rfl, h2 ▸ Grew.refl _⟩)
          · exact ok_u8ne (wanted_none rfl) (.tmp 20) (.tmp 24) _ rfl _ _ (m.has 3 20 rfl rfl) (m.has 7 24 rfl rfl) false HD.out
          intro f w9 hg hf
          have e8 : f 8 = .bool false := hf 8 (by decide)
          have B9 := hideIt (below_then HBW.out hg)
          clear hf
          simp only [List.take, List.drop, putAll, Act.put, List.setIfInBounds_toArray, List.set_cons_succ, List.set_cons_zero]
          rw [e8]
          clear e8
          go_wp2_with fail
          go_roundw
          case rel => exact ⟨j + 1, by omega, by go_num, HN.out, B9.out⟩
          case measure => simp [intOf]; omega
        · have HF : Hid (R = false) := hideIt (by rw [← HR.out]; exact same_miss hlt hlb (by rw [ea, eb]; exact he))
          have HD : Hid (decide (((smallB ca).toNat : Int) = ((smallB cb).toNat : Int)) = false) := hideIt (decide_eq_false fun h => he (UInt8.toNat_inj.1 (by omega)))
          clear he hlb hca hcb ea eb
          go_wp2_with fail
          refine region_inv [Fact.str (la), Fact.is (.int .i64 ((j : Nat) : Int)), Fact.is (.int .u8 ((ca).toNat : Int)), Fact.is (.int .u8 ((smallB ca).toNat : Int)), Fact.str (lb), Fact.is (.int .i64 ((j : Nat) : Int)), Fact.is (.int .u8 ((cb).toNat : Int)), Fact.is (.int .u8 ((smallB cb).toNat : Int)), Fact.is (.bool true)] (by kernel_rfl) (by kernel_rfl) ⟨fun a w1 m => ?_, fun a w1 m => ?_, fun a w1 m => ?_, fun a w1 m => ?_, fun a w1 m => ?_, fun a w1 m => ?_, fun a w1 m => ?_, fun a w1 m => ?_, fun a w1 m => ?_, trivial⟩ ?_
          · exact ok_move (wanted_none rfl) (.tmp 0) rfl (m.old 0 rfl)
          · exact ok_move (wanted_none rfl) (.tmp 5) rfl (m.old 5 rfl)
          · exact ok_strindex (wanted_none rfl) (.tmp 17) (.tmp 18) rfl la .i64 j (m.has 0 17 rfl rfl) (m.has 1 18 rfl rfl) _ Hca.out
          · exact ok_fn (wanted_none rfl) _ _ _ rfl _ (map1 (m.has 2 19 rfl rfl)) go_refsmall (refsmall_any ca w1) (fun e w' ⟨h1, h2⟩ => ⟨_, h1, rfl, h2 ▸ Grew.refl _⟩)
          · exact ok_move (wanted_none rfl) (.tmp 1) rfl (m.old 1 rfl)
          · exact ok_move (wanted_none rfl) (.tmp 5) rfl (m.old 5 rfl)
          · exact ok_strindex (wanted_none rfl) (.tmp 21) (.tmp 22) rfl lb .i64 j (m.has 4 21 rfl rfl) (m.has 5 22 rfl rfl) _ Hcb.out
          · exact ok_fn (wanted_none rfl) _ _ _ rfl _ (map1 (m.has 6 23 rfl rfl)) go_refsmall (refsmall_any cb w1) (fun e w' ⟨h1, h2⟩ => ⟨_, h1, rfl, h2 ▸ Grew.refl _⟩)
          · exact ok_u8ne (wanted_none rfl) (.tmp 20) (.tmp 24) _ rfl _ _ (m.has 3 20 rfl rfl) (m.has 7 24 rfl rfl) true HD.out
          intro f w9 hg hf
          have e8 : f 8 = .bool true := hf 8 (by decide)
          have B9 := hideIt (below_then HBW.out hg)
          clear hf
          simp only [List.take, List.drop, putAll, Act.put, List.setIfInBounds_toArray, List.set_cons_succ, List.set_cons_zero]
          rw [e8]
          clear e8
          go_wp2_with fail
          go_ret
          exact ⟨by rw [HF.out]; rfl, B9.out⟩
      · obtain rfl : j = la.length := by omega
        have hlt' : ¬ (la.length : Int) < (la.length : Int) := by omega
        have HF : Hid (R = true) := hideIt (by rw [← HR.out]; exact same_end HLEN.out HT.out)
        go_wp2_with fail
        go_ret
        exact ⟨by rw [HF.out]; rfl, HBW.out⟩
  · have e : sameL la lb = false := same_len hlen
    rw [e]
    have hne : ((la.length : Int) == (lb.length : Int)) = false := by rw [beq_eq_false_iff_ne]; omega
    clear e hlen hl
    go_enter Tryd.func61, Tryd.ntmps61
    go_wp2
    go_ret
    exact ⟨rfl, Below.refl _ _⟩
theorem go_refsame8 : goFn Tryd.prog 61 = true := by kernel_rfl
theorem rall_succ (ps : List PairL) (n : List UInt8) (j : Nat) (x : PairL) (h : ps[j]? = some x) : allL (ps.take (j + 1)) n = allL (ps.take j) n ++ if sameL x.1 n then [x.2] else [] := by
  rw [allL, List.take_add_one, List.filter_append, List.map_append, h]
  cases hs : sameL x.1 n <;> simp [allL, List.filter_cons, hs]
theorem rall_le (ps : List PairL) (n : List UInt8) (j : Nat) : (allL (ps.take j) n).length ≤ j := by
  rw [allL, List.length_map]
  exact Nat.le_trans (List.length_filter_le ..) (by simp; omega)
set_option maxRecDepth 8000 in
set_option maxHeartbeats 2000000 in
theorem refall_any (A : Option Addr) (n c : Nat) (ps : List PairL) (name : List UInt8) (w : World) (hp : PairsAt w A ps) (hn : ps.length = n) (hl : n ≤ 100000) (hnm : name.length ≤ 1000000) (hv : ∀ x ∈ ps, x.1.length ≤ 140737488355328 ∧ x.2.length ≤ 140737488355328) (hnc : n ≤ c) (hcc : c ≤ 9223372036854775807) :
    Calls Tryd.prog 45 #[.slice A n c, .string (strOf name)] w fun e w' => ∃ v, e = .returned v ∧ SOwn w.heap.size v (allL ps name) w' ∧ Below w.heap.size w w' := by
  have HP := hideIt hp
  have HV := hideIt hv
  clear hp hv
  subst hn
  have HALL : Hid (allL (ps.take ps.length) name = allL ps name) := hideIt (by rw [List.take_length])
  obtain ⟨RR, hRR⟩ : ∃ R, allL ps name = R := ⟨_, rfl⟩
  rw [hRR] at HALL ⊢
  clear hRR
  go_enter Tryd.func45, Tryd.ntmps45
  go_wp2
  go_loopw [5, 6] (fun v i wr => ∃ j : Nat, j ≤ ps.length ∧ i = .int .i64 (j : Int) ∧ SOwn w.heap.size v (allL (ps.take j) name) wr ∧ Below w.heap.size w wr) (fun v i wr => ps.length - (intOf i).toNat)
  case atStart => exact ⟨0, by omega, rfl, SOwn.nil _ _, Below.refl _ _⟩
  case round =>
    obtain ⟨j, hj, rfl, ho, hb⟩ := hrel
    have HO := hideIt ho
    have HB := hideIt hb
    clear ho hb
    have hle := rall_le ps name j
    by_cases hlt : j < ps.length
    · have hji : (j : Int) < (ps.length : Int) := by omega
      obtain ⟨x, hx⟩ : ∃ x, ps[j]? = some x := ⟨_, List.getElem?_eq_getElem hlt⟩
      obtain ⟨hv1, hv2⟩ := HV.out x (List.mem_of_getElem? hx)
      obtain ⟨b, off, rfl, hlt2, hc⟩ := (HP.out.keep HB.out) (by omega)
      obtain ⟨c1, c2⟩ := hc j x hx
      have HX := hideIt (rall_succ ps name j x hx)
      clear hc hx
      rw [show off + 2 * j = off + j * 2 by omega] at c1 c2
      have HC2 := hideIt c2
      have HLT2 := hideIt hlt2
      clear c2 hlt2
      have HS := hideIt (fun w => refsame8_any x.1 name w (by omega) hv1 (by omega))
      have hwj : IntKind.i64.wrap ((j : Int) + 1) = (j : Int) + 1 := IntWalk.i64_in _ (by omega)
      clear hv1 hv2
      generalize allL (ps.take j) name = done at *
      cases hs : sameL x.1 name
      · rw [hs] at HS HX
        clear hs
        go_wp2_with fail
        refine (HS.out _).mono ?_
        rintro e w2 ⟨rfl, hb2⟩
        have B2 := hideIt (below_then HB.out hb2)
        have O2 := hideIt (HO.out.keep hb2)
        clear hb2 HS HB HO
        go_wp2_with fail
        go_roundw
        case rel => exact ⟨j + 1, by omega, by go_num, by rw [HX.out]; simpa using O2.out, B2.out⟩
        case measure => simp [intOf]; omega
      · rw [hs] at HS HX
        clear hs
        go_wp2_with fail
        refine (HS.out _).mono ?_
        rintro e w2 ⟨rfl, hb2⟩
        have B2 := hideIt (below_then HB.out hb2)
        have O2 := hideIt (HO.out.keep hb2)
        have q1 := (hb2.cell (p := ⟨b, off + j * 2 + 1, none⟩) HLT2.out).trans HC2.out
        clear hb2 HS HB HO
        go_wp2_with (at_builtin; refine wpList_appT1 rfl (.tmp 20) (.tmp 26) rfl w.heap.size _ done x.2 rfl O2.out rfl (by omega) B2.out.size ?_)
        intro v4 w4 o4 g4
        have O4 := hideIt o4
        have B4 : Hid (Below w.heap.size w w4) := hideIt (B2.out.trans (g4 _ (Nat.le_refl _)))
        clear o4 g4 O2 B2
        go_wp2_with fail
        go_roundw
        case rel => exact ⟨j + 1, by omega, by go_num, by rw [HX.out]; exact O4.out, B4.out⟩
        case measure => simp [intOf]; omega
    · obtain rfl : j = ps.length := by omega
      have hlt' : ¬ (ps.length : Int) < (ps.length : Int) := by omega
      rw [HALL.out] at HO
      go_wp2_with fail
      go_ret
      exact ⟨_, rfl, HO.out, HB.out⟩
theorem go_refall : goFn Tryd.prog 45 = true := by kernel_rfl
/-- texts that can be read, as a value -/
structure TextsV (v : Value) (ps : List (List UInt8)) (w : World) : Prop where
  form : ∃ A c, v = .slice A ps.length c ∧ ps.length ≤ c ∧ c ≤ 9223372036854775807 ∧ StrsAt w A ps
theorem TextsV.keep {v : Value} {ps : List (List UInt8)} {w w' : World} (h : TextsV v ps w) (hb : Below w.heap.size w w') : TextsV v ps w' := by
  obtain ⟨A, c, h1, h2, h3, h4⟩ := h.form
  exact ⟨A, c, h1, h2, h3, h4.keep hb⟩
theorem SOwn.reads {base : Nat} {v : Value} {ps : List (List UInt8)} {w : World} (h : SOwn base v ps w) : TextsV v ps w := by
  obtain ⟨A, c, h1, h2, h3, h4⟩ := h.open
  exact ⟨A, c, h1, h2, h3, h4⟩
def Fact.texts (ps : List (List UInt8)) : Fact := ⟨fun v w => TextsV v ps w, fun _ _ _ h hg => h.keep hg⟩
theorem takeT_all {ps qs : List (List UInt8)} {j : Nat} (h : ps.take j = qs.take j) {x y : List UInt8} (hx : ps[j]? = some x) (hy : qs[j]? = some y) : x = y ↔ ps.take (j + 1) = qs.take (j + 1) := by
  rw [List.take_add_one, List.take_add_one, hx, hy, h]
  simp
set_option maxRecDepth 8000 in
set_option maxHeartbeats 2000000 in
theorem reftexts_any (v u : Value) (ps qs : List (List UInt8)) (w : World) (hp : TextsV v ps w) (hq : TextsV u qs w) (hl : ps.length ≤ 1000000) :
    Calls Tryd.prog 28 #[v, u] w fun e w' => e = .returned (.bool (decide (ps = qs))) ∧ Below w.heap.size w w' := by
  obtain ⟨A, c, rfl, hc1, hc2, HA⟩ := hp.form
  obtain ⟨B, d, rfl, hd1, hd2, HB⟩ := hq.form
  have HPA := hideIt HA
  have HPB := hideIt HB
  clear hp hq HA HB
  by_cases hlen : ps.length = qs.length
  · have HL := hideIt hlen
    rw [← hlen] at hd1 ⊢
    clear hlen
    obtain ⟨R, hR⟩ : ∃ R, decide (ps = qs) = R := ⟨_, rfl⟩
    rw [hR]
    have HRR := hideIt hR
    clear hR
    go_enter Tryd.func28, Tryd.ntmps28
    go_wp2
    go_loopw [5] (fun i wr => ∃ j : Nat, j ≤ ps.length ∧ i = .int .i64 (j : Int) ∧ ps.take j = qs.take j ∧ Below w.heap.size w wr) (fun i wr => ps.length - (intOf i).toNat)
    case atStart => exact ⟨0, by omega, rfl, rfl, Below.refl _ _⟩
    case round =>
      obtain ⟨j, hj, rfl, ht, hb⟩ := hrel
      have HT := hideIt ht
      have HBW := hideIt hb
      clear ht hb
      have hwj : IntKind.i64.wrap ((j : Int) + 1) = (j : Int) + 1 := IntWalk.i64_in _ (by omega)
      by_cases hlt : j < ps.length
      · have hlt' : (j : Int) < (ps.length : Int) := by omega
        obtain ⟨x, hx⟩ : ∃ x, ps[j]? = some x := ⟨_, List.getElem?_eq_getElem hlt⟩
        obtain ⟨y, hy⟩ : ∃ y, qs[j]? = some y := ⟨_, List.getElem?_eq_getElem (by have := HL.out; omega)⟩
        obtain ⟨a, rfl, la, ka⟩ := (HPA.out.keep HBW.out) (by omega)
        obtain ⟨b, rfl, lb, kb⟩ := (HPB.out.keep HBW.out) (by have := HL.out; omega)
        have a1 := ka j x hx
        have b1 := kb j y hy
        have HTA := hideIt (takeT_all HT.out hx hy)
        clear ka kb hx hy la lb
        by_cases hxy : x = y
        · subst hxy
          have HT2 := hideIt (HTA.out.1 rfl)
          go_wp2_with fail
          go_region
          go_wp2_with fail
          go_roundw
          case rel => exact ⟨j + 1, by omega, by go_num, HT2.out, HBW.out.drew⟩
          case measure => simp [intOf]; omega
        · have HF : Hid (R = false) := hideIt (by rw [← HRR.out]; exact decide_eq_false fun e => hxy (HTA.out.2 (by rw [e])))
          have hs : ((strOf x).toList == (strOf y).toList) = false := by rw [beq_eq_false_iff_ne, strOf_toList, strOf_toList]; exact hxy
          clear hxy
          go_wp2_with fail
          go_region
          go_wp2_with fail
          go_ret
          exact ⟨by rw [HF.out]; rfl, HBW.out.drew⟩
      · obtain rfl : j = ps.length := by omega
        have hlt' : ¬ (ps.length : Int) < (ps.length : Int) := by omega
        have HF : Hid (R = true) := hideIt (by
          rw [← HRR.out]
          have h1 := HT.out
          have h2 := HL.out
          refine decide_eq_true ?_
          rw [List.take_length] at h1
          rw [h1, h2, List.take_length])
        go_wp2_with fail
        go_ret
        exact ⟨by rw [HF.out]; rfl, HBW.out⟩
  · have e : decide (ps = qs) = false := decide_eq_false fun e => hlen (by rw [e])
    rw [e]
    have hne : ((ps.length : Int) == (qs.length : Int)) = false := by rw [beq_eq_false_iff_ne]; omega
    clear e hlen
    go_enter Tryd.func28, Tryd.ntmps28
    go_wp2
    go_ret
    exact ⟨rfl, Below.refl _ _⟩
theorem go_reftexts : goFn Tryd.prog 28 = true := by kernel_rfl
end Go.Proofs.YtbojigimldfghaaDoor
