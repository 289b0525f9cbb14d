/- The walk of MacSteps. -/
import Derived.Test.YtigocnaminkodaaDoorMacKnown
import Derived.Test.YtigocnaminkodaaDoorFacts2
namespace Go.Proofs.YtigocnaminkodaaDoor
open Go.ChangeShapes Go.WideShapes Go.ChangeAt Go.RowKit
set_option linter.unusedVariables false
set_option linter.unusedSimpArgs false

/-- a cell, kept -/
structure CellAt (w : World) (p : Addr) (v : Value) : Prop where
  val : w.cell? p = some v
  lt : p.block < w.heap.size
theorem CellAt.keep {w w' : World} {p : Addr} {v : Value} (h : CellAt w p v) (hg : Grew w w') : CellAt w' p v := ⟨(hg.cell h.lt).trans h.val, Nat.lt_of_lt_of_le h.lt hg.size⟩
theorem go_known3 : goFn Tryd.prog 19 = true := by kernel_rfl
/-- a row of the call's own that is not empty -/
theorem own_some {w : World} {base n : Nat} {e : TypeId} {v : Value} {cs : List Value} (h : w.ownsRow base e 1 v n cs) (hn : 0 < n) : ∃ g c, v = .slice (some ⟨g, 0, none⟩) n c ∧ base ≤ g ∧ n ≤ c ∧ c ≤ maxLen := by
  rcases h.2 with ⟨rfl, h0⟩ | ⟨g, cap, cur, rfl, hb, hg, hnc, hcm, _⟩
  · omega
  · exact ⟨g, cap, rfl, hb, hnc, hcm⟩
theorem set_same {bs : List UInt8} {j : Nat} (hj : j < bs.length) (x : UInt8) : bs = bs.set j x ↔ bs[j] = x := by
  constructor
  · intro h
    have h1 : (bs.set j x)[j]? = some x := by simp [hj]
    rw [← h] at h1
    simpa [hj] using h1
  · intro h
    subst h
    simp

set_option maxHeartbeats 4000000 in
theorem macSteps_walk (a0 : Option Addr) (len0 cap0 : Nat) (z0 : List Int) (a1 : Option Addr) (len1 cap1 : Nat) (z1 : List Int) (a2 : Int) (a3 : Int) (w : World) (w0 : IsRow .u8 w a0 len0 cap0 z0) (w1 : IsRow .u8 w a1 len1 cap1 z1) (w2 : (Lit.int .u8 a2).wf = true) (w3 : (Lit.int .u8 a3).wf = true) (hT : Tabs w) (r0 : cap0 ≤ 140737488355328) (r1 : cap1 ≤ 140737488355328) :
    Calls Tryd.prog 9 #[.slice a0 len0 cap0, .slice a1 len1 cap1, .int .u8 a2, .int .u8 a3] w fun e w' => e = .returned (.bool true) ∧ Below w.heap.size w w' := by
  obtain ⟨bs0, hl0, hlc0, hcm0, hnil0, hb0⟩ := w0.bytes
  obtain ⟨bs1, hl1, hlc1, hcm1, hnil1, hb1⟩ := w1.bytes
  have hi2 := bounds_u8 w2
  have hi3 := bounds_u8 w3
  clear w0 w1 w2 w3
  have l0i : (len0 : Int) ≤ 140737488355328 := by omega
  have l1i : (len1 : Int) ≤ 140737488355328 := by omega
  have hwr : IntKind.i64.wrap ((len0 : Int) + (len1 : Int)) = (len0 : Int) + (len1 : Int) := by rw [IntKind.wrap_i64]; omega
  by_cases hbig : 300 < len0 + len1
  · have hbig' : (300 : Int) < (len0 : Int) + (len1 : Int) := by omega
    have HK := hideIt (known3_any w hT)
    clear hb0 hb1 hT r0 r1 hlc0 hlc1 hcm0 hcm1
    go_enter Tryd.func9, Tryd.ntmps9
    go_wp2_with fail
    refine HK.out.mono ?_
    rintro e w1 ⟨rfl, b1⟩
    go_wp2_with fail
    go_ret
    exact ⟨rfl, b1⟩
  have hbig' : ¬ (300 : Int) < (len0 : Int) + (len1 : Int) := by omega
  by_cases hz : len0 = 0
  · have HK := hideIt (known3_any w hT)
    have hz' : (len0 : Int) = 0 := by omega
    clear hb0 hb1 hT r0 r1 hlc0 hlc1 hcm0 hcm1
    go_enter Tryd.func9, Tryd.ntmps9
    go_wp2_with fail
    refine HK.out.mono ?_
    rintro e w1 ⟨rfl, b1⟩
    go_wp2_with fail
    go_ret
    exact ⟨rfl, b1⟩
  have hz' : ¬ (len0 : Int) = 0 := by omega
  obtain ⟨j, hj⟩ : ∃ j : Nat, a2 % (len0 : Int) = (j : Int) := ⟨(a2 % (len0 : Int)).toNat, (Int.toNat_of_nonneg (Int.emod_nonneg _ hz')).symm⟩
  have hjl : j < len0 := by have := Int.emod_lt_of_pos a2 (show (0 : Int) < (len0 : Int) by omega); omega
  have hj' : Int.tmod a2 (len0 : Int) = (j : Int) := by rw [Int.tmod_eq_emod_of_nonneg (by omega), hj]
  obtain ⟨b0, off0, rfl, hlt0, hc0⟩ := hb0 (by omega)
  have hp0 : PieceOk w ⟨some ⟨b0, off0, none⟩, cap0, bs0⟩ := ⟨fun _ => ⟨b0, off0, rfl, hlt0, hc0⟩, by simp only; omega, by simp only; omega, by simp only; omega, by simp⟩
  have hp1 : PieceOk w ⟨a1, cap1, bs1⟩ := ⟨hb1, by simp only; omega, by simp only; omega, by simp only; omega, hnil1⟩
  have hjb : j < bs0.length := by omega
  have hcell : CellAt w ⟨b0, off0 + j, none⟩ (.int .u8 ((bs0[j]).toNat : Int)) := ⟨hc0 j hjb, hlt0⟩
  obtain ⟨y, hy⟩ : ∃ y : Int, ((bs0[j]).toNat : Int) = y := ⟨_, rfl⟩
  obtain ⟨c3, hc3⟩ : ∃ c3 : UInt8, (c3.toNat : Int) = a3 := ⟨UInt8.ofNat a3.toNat, by rw [UInt8.toNat_ofNat']; omega⟩
  obtain ⟨bsx, hbx⟩ : ∃ bsx, bsx = bs0.set j c3 := ⟨_, rfl⟩
  have hlx : bsx.length = len0 := by rw [hbx, List.length_set]; exact hl0
  have hres : decide (decide (bs0 = bsx) = decide (y = a3)) = true := by
    refine decide_eq_true ?_
    have h1 := set_same hjb c3
    rw [← hbx] at h1
    by_cases h : bs0[j] = c3
    · have h2 : y = a3 := by rw [← hy, ← hc3, h]
      simp [h1.2 h, h2]
    · have h2 : ¬ y = a3 := fun e => h (by
        rw [← hy, ← hc3] at e
        exact UInt8.toNat_inj.1 (by omega))
      have h3 : ¬ bs0 = bsx := fun e => h (h1.1 e)
      simp [h3, h2]
  rw [hy] at hcell
  have HP0 := hideIt hp0
  have HP1 := hideIt hp1
  have HT := hideIt hT
  have HC := hideIt hcell
  have HB0 : Hid (BytesAt w w.heap.size (some ⟨b0, off0, none⟩) bs0) := hideIt hp0.bytes
  have HL0 := hideIt hl0
  have HBX := hideIt hbx
  have HC3 := hideIt hc3
  have HR := hideIt hres
  have HL1 := hideIt hl1
  have HLX := hideIt hlx
  have l0n : (0 : Int) < (len0 : Int) := by omega
  have l0s : (len0 : Int) ≤ 300 := by omega
  clear hp0 hp1 hT hcell hb0 hb1 hc0 hres hl0 hbx hy hl1 hlx hc3 r0 r1 hlc0 hlc1 hcm0 hcm1 hnil0
  go_enter Tryd.func9, Tryd.ntmps9
  go_wp2_with (at_builtin; refine wpList_app rfl (.tmp 22) (.tmp 23) rfl w.heap.size (.slice none 0 0) 0 [] rfl (own_none _ _ _) (some ⟨b0, off0, none⟩) len0 cap0 w.heap.size bs0 rfl HL0.out (by intro h; cases h) (by exact HB0.out) (by omega) (Nat.le_refl _) ?_; intro v1 w1 o1 g1; rw [Nat.zero_add, List.nil_append] at o1; obtain ⟨g, cx, rfl, hgb, hcx, hcm⟩ := own_some o1 (by omega); have hcb := o1.cellAt j (by omega); rw [cellsOf_at bs0 j hjb] at hcb; have hfb := o1.frozenAt j; have O1 := hideIt o1; have G1 := hideIt g1; clear o1 g1)
  have hst := O1.out.stored j (.int .u8 a3)
  rw [← HC3.out, cellsOf_set, ← HBX.out, HC3.out] at hst
  have hcx' : cx ≤ 9223372036854775807 := hcm
  have bel1 : Below w.heap.size w (w1.setCell ⟨g, j, none⟩ (.int .u8 a3)) := (below_made G1.out).setCell hgb _
  have ox := hst.1
  generalize w1.setCell ⟨g, j, none⟩ (.int .u8 a3) = w2 at *
  have hl0 := HL0.out
  have hl1 := HL1.out
  have hlx := HLX.out
  have hp0 := HP0.out.keep bel1
  have hp1 := HP1.out.keep bel1
  have hpx : PieceOk w2 ⟨some ⟨g, 0, none⟩, cx, bsx⟩ := ⟨own_bytes ox, by simp only; omega, hcx', by simp only; omega, by simp⟩
  have hT := HT.out.keep bel1
  have hcell := HC.out.keep bel1
  have hres := HR.out
  clear hst ox O1 G1 hcb hfb HP0 HP1 HT HC HR HB0 HL0 HL1 HLX HBX HC3
  have fin : ∀ (w3 : World), Grew w2 w3 → Below w.heap.size w w3 := fun w3 h => below_then bel1 h
  have hend : ∀ {a : Act} {w3 : World}, Grew w2 w3 → True := fun _ => trivial
  by_cases hsm : len0 = len1
  · have hne := hsm
    refine region_inv [Fact.is (.bool true), Fact.is (.bool true), Fact.is (.slice (some ⟨b0, off0, none⟩) len0 cap0), Fact.is (.slice (some ⟨g, 0, none⟩) len0 cx), Fact.is (.int .i64 ((len0 : Nat) : Int)), Fact.is (.slice (some ⟨b0, off0, none⟩) len0 cap0), Fact.is (.int .i64 ((len0 : Nat) : Int)), Fact.is (.bool true), Fact.is (.bool true), Fact.is (.bool true), Fact.is (.slice (some ⟨b0, off0, none⟩) len0 cap0), Fact.is (.slice (some ⟨g, 0, none⟩) len0 cx), Fact.is (.int .i64 ((len0 : Nat) : Int)), Fact.is (.slice (some ⟨b0, off0, none⟩) len0 cap0), Fact.is (.slice (some ⟨b0, off0, none⟩) len0 cap0), Fact.is (.int .i64 ((len0 : Nat) : Int)), Fact.is (.bool true), Fact.is (.bool true), Fact.is (.bool true), Fact.is (.slice (some ⟨b0, off0, none⟩) len0 cap0), Fact.is (.int .i64 ((len0 : Nat) : Int)), Fact.is (.slice a1 len1 cap1), Fact.is (.int .i64 ((len1 : Nat) : Int)), Fact.is (.bool true), Fact.is (.bool true), Fact.is (undef), Fact.is (undef), Fact.is (undef), Fact.is (undef), Fact.is (undef), Fact.is (undef), Fact.is (undef), Fact.is (undef), Fact.is (undef), Fact.is (undef), Fact.is (.bool true), Fact.is (.bool true), Fact.is (.bool true), Fact.is (.slice (some ⟨b0, off0, none⟩) len0 cap0), Fact.is (.slice (some ⟨g, 0, none⟩) len0 cx), Fact.is (.bool (decide (bs0 = bsx))), Fact.is (.slice (some ⟨b0, off0, none⟩) len0 cap0), Fact.is (.int .u8 a2), Fact.is (.int .i64 a2), Fact.is (.slice (some ⟨b0, off0, none⟩) len0 cap0), Fact.is (.int .i64 ((len0 : Nat) : Int)), Fact.is (.int .i64 (j : Int)), Fact.is (.pointer (some ⟨b0, off0 + j, none⟩)), Fact.is (.int .u8 (y : Int)), Fact.is (.int .u8 a3), Fact.is (.bool (decide (y = a3))), Fact.is (.bool true), Fact.is (.bool true), Fact.is (.bool true)] (by kernel_rfl) (by kernel_rfl) ⟨fun a w1 m => ?_, fun a w1 m => ?_, fun a w1 m => ?_, fun a w1 m => ?_, fun a w1 m => ?_, fun a w1 m => ?_, fun a w1 m => ?_, fun a w1 m => ?_, fun a w1 m => ?_, fun a w1 m => ?_, fun a w1 m => ?_, fun a w1 m => ?_, fun a w1 m => ?_, fun a w1 m => ?_, fun a w1 m => ?_, fun a w1 m => ?_, fun a w1 m => ?_, fun a w1 m => ?_, fun a w1 m => ?_, fun a w1 m => ?_, fun a w1 m => ?_, fun a w1 m => ?_, fun a w1 m => ?_, fun a w1 m => ?_, fun a w1 m => ?_, fun a w1 m => ?_, fun a w1 m => ?_, fun a w1 m => ?_, fun a w1 m => ?_, fun a w1 m => ?_, fun a w1 m => ?_, fun a w1 m => ?_, fun a w1 m => ?_, fun a w1 m => ?_, fun a w1 m => ?_, fun a w1 m => ?_, fun a w1 m => ?_, fun a w1 m => ?_, fun a w1 m => ?_, fun a w1 m => ?_, fun a w1 m => ?_, fun a w1 m => ?_, fun a w1 m => ?_, fun a w1 m => ?_, fun a w1 m => ?_, fun a w1 m => ?_, fun a w1 m => ?_, fun a w1 m => ?_, fun a w1 m => ?_, fun a w1 m => ?_, fun a w1 m => ?_, fun a w1 m => ?_, fun a w1 m => ?_, fun a w1 m => ?_, trivial⟩ ?_
    · exact ok_fn (wanted_none rfl) _ _ _ rfl _ map0 go_known3 (known3_any w1 (hT.keep m.grew)) (fun e w' ⟨h1, h2⟩ => ⟨_, h1, rfl, h2⟩)
    · exact ok_move (wanted_none rfl) (.tmp 33) rfl (m.has 0 33 rfl rfl)
    · exact ok_move (wanted_some 1 true rfl 34 rfl true (m.has 1 34 rfl rfl)) (.tmp 0) rfl (m.old 0 rfl)
    · exact ok_move (wanted_some 1 true rfl 34 rfl true (m.has 1 34 rfl rfl)) (.tmp 9) rfl (m.old 9 rfl)
    · exact ok_fn (wanted_some 1 true rfl 34 rfl true (m.has 1 34 rfl rfl)) _ _ _ rfl _ (map2 (m.has 2 35 rfl rfl) (m.has 3 36 rfl rfl)) go_steps (steps_any _ _ len0 _ len0 _ w1 (by omega) (by omega)) (fun e w' ⟨h1, h2⟩ => ⟨_, h1, by rw [if_pos rfl]; rfl, h2 ▸ Grew.refl _⟩)
    · exact ok_move (wanted_some 1 true rfl 34 rfl true (m.has 1 34 rfl rfl)) (.tmp 0) rfl (m.old 0 rfl)
    · exact ok_len (wanted_some 1 true rfl 34 rfl true (m.has 1 34 rfl rfl)) (.tmp 38) rfl _ _ _ (m.has 5 38 rfl rfl)
    · exact ok_inteq (wanted_some 1 true rfl 34 rfl true (m.has 1 34 rfl rfl)) (.tmp 37) (.tmp 39) _ rfl _ _ (m.has 4 37 rfl rfl) (m.has 6 39 rfl rfl) _ (decide_eq_true rfl)
    · exact ok_pickT (wanted_none rfl) (.tmp 34) _ _ rfl (m.has 1 34 rfl rfl) (m.has 7 40 rfl rfl)
    · exact ok_move (wanted_none rfl) (.tmp 41) rfl (m.has 8 41 rfl rfl)
    · exact ok_move (wanted_some 9 true rfl 42 rfl true (m.has 9 42 rfl rfl)) (.tmp 0) rfl (m.old 0 rfl)
    · exact ok_move (wanted_some 9 true rfl 42 rfl true (m.has 9 42 rfl rfl)) (.tmp 9) rfl (m.old 9 rfl)
    · exact ok_fn (wanted_some 9 true rfl 42 rfl true (m.has 9 42 rfl rfl)) _ _ _ rfl _ (map2 (m.has 10 43 rfl rfl) (m.has 11 44 rfl rfl)) go_steps (steps_any _ _ len0 _ len0 _ w1 (by omega) (by omega)) (fun e w' ⟨h1, h2⟩ => ⟨_, h1, by rw [if_pos rfl]; rfl, h2 ▸ Grew.refl _⟩)
    · exact ok_move (wanted_some 9 true rfl 42 rfl true (m.has 9 42 rfl rfl)) (.tmp 0) rfl (m.old 0 rfl)
    · exact ok_move (wanted_some 9 true rfl 42 rfl true (m.has 9 42 rfl rfl)) (.tmp 0) rfl (m.old 0 rfl)
    · exact ok_fn (wanted_some 9 true rfl 42 rfl true (m.has 9 42 rfl rfl)) _ _ _ rfl _ (map2 (m.has 13 46 rfl rfl) (m.has 14 47 rfl rfl)) go_steps (steps_any _ _ len0 _ len0 _ w1 (by omega) (by omega)) (fun e w' ⟨h1, h2⟩ => ⟨_, h1, by rw [if_pos rfl]; rfl, h2 ▸ Grew.refl _⟩)
    · exact ok_inteq (wanted_some 9 true rfl 42 rfl true (m.has 9 42 rfl rfl)) (.tmp 45) (.tmp 48) _ rfl _ _ (m.has 12 45 rfl rfl) (m.has 15 48 rfl rfl) _ (decide_eq_true rfl)
    · exact ok_pickT (wanted_none rfl) (.tmp 42) _ _ rfl (m.has 9 42 rfl rfl) (m.has 16 49 rfl rfl)
    · exact ok_move (wanted_none rfl) (.tmp 50) rfl (m.has 17 50 rfl rfl)
    · exact ok_move (wanted_some 18 true rfl 51 rfl true (m.has 18 51 rfl rfl)) (.tmp 0) rfl (m.old 0 rfl)
    · exact ok_len (wanted_some 18 true rfl 51 rfl true (m.has 18 51 rfl rfl)) (.tmp 52) rfl _ _ _ (m.has 19 52 rfl rfl)
    · exact ok_move (wanted_some 18 true rfl 51 rfl true (m.has 18 51 rfl rfl)) (.tmp 1) rfl (m.old 1 rfl)
    · exact ok_len (wanted_some 18 true rfl 51 rfl true (m.has 18 51 rfl rfl)) (.tmp 54) rfl _ _ _ (m.has 21 54 rfl rfl)
    · exact ok_inteq (wanted_some 18 true rfl 51 rfl true (m.has 18 51 rfl rfl)) (.tmp 53) (.tmp 55) _ rfl _ _ (m.has 20 53 rfl rfl) (m.has 22 55 rfl rfl) _ (decide_eq_true (by rw [hsm]))
    · exact ok_move (wanted_some 18 true rfl 51 rfl true (m.has 18 51 rfl rfl)) (.tmp 56) rfl (m.has 23 56 rfl rfl)
    · exact ok_not (wanted_some 24 false rfl 57 rfl true (m.has 24 57 rfl rfl)) rfl
    · exact ok_not (wanted_some 24 false rfl 57 rfl true (m.has 24 57 rfl rfl)) rfl
    · exact ok_not (wanted_some 24 false rfl 57 rfl true (m.has 24 57 rfl rfl)) rfl
    · exact ok_not (wanted_some 24 false rfl 57 rfl true (m.has 24 57 rfl rfl)) rfl
    · exact ok_not (wanted_some 24 false rfl 57 rfl true (m.has 24 57 rfl rfl)) rfl
    · exact ok_not (wanted_undef 29 true rfl 62 rfl (m.has 29 62 rfl rfl)) rfl
    · exact ok_not (wanted_undef 29 true rfl 62 rfl (m.has 29 62 rfl rfl)) rfl
    · exact ok_not (wanted_undef 29 true rfl 62 rfl (m.has 29 62 rfl rfl)) rfl
    · exact ok_not (wanted_undef 29 true rfl 62 rfl (m.has 29 62 rfl rfl)) rfl
    · exact ok_not (wanted_some 24 false rfl 57 rfl true (m.has 24 57 rfl rfl)) rfl
    · exact ok_pickT (wanted_some 18 true rfl 51 rfl true (m.has 18 51 rfl rfl)) (.tmp 57) _ _ rfl (m.has 24 57 rfl rfl) (rfl)
    · exact ok_pickT (wanted_none rfl) (.tmp 51) _ _ rfl (m.has 18 51 rfl rfl) (m.has 35 68 rfl rfl)
    · exact ok_move (wanted_none rfl) (.tmp 69) rfl (m.has 36 69 rfl rfl)
    · exact ok_move (wanted_some 37 true rfl 70 rfl true (m.has 37 70 rfl rfl)) (.tmp 0) rfl (m.old 0 rfl)
    · exact ok_move (wanted_some 37 true rfl 70 rfl true (m.has 37 70 rfl rfl)) (.tmp 9) rfl (m.old 9 rfl)
    · exact ok_fn (wanted_some 37 true rfl 70 rfl true (m.has 37 70 rfl rfl)) _ _ _ rfl _ (map2 (m.has 38 71 rfl rfl) (m.has 39 72 rfl rfl)) go_equal (equal_any _ _ bs0 bsx len0 cap0 len0 cx w1 (hp0.keep m.grew).bytes (hpx.keep m.grew).bytes hl0 hlx (by omega) (by omega)) (fun e w' ⟨h1, h2⟩ => ⟨_, h1, rfl, h2⟩)
    · exact ok_move (wanted_some 37 true rfl 70 rfl true (m.has 37 70 rfl rfl)) (.tmp 0) rfl (m.old 0 rfl)
    · exact ok_move (wanted_some 37 true rfl 70 rfl true (m.has 37 70 rfl rfl)) (.tmp 2) rfl (m.old 2 rfl)
    · exact ok_u8int (wanted_some 37 true rfl 70 rfl true (m.has 37 70 rfl rfl)) (.tmp 75) rfl _ (m.has 42 75 rfl rfl) (by omega) (by omega)
    · exact ok_move (wanted_some 37 true rfl 70 rfl true (m.has 37 70 rfl rfl)) (.tmp 0) rfl (m.old 0 rfl)
    · exact ok_len (wanted_some 37 true rfl 70 rfl true (m.has 37 70 rfl rfl)) (.tmp 77) rfl _ _ _ (m.has 44 77 rfl rfl)
    · exact ok_rem (wanted_some 37 true rfl 70 rfl true (m.has 37 70 rfl rfl)) (.tmp 76) (.tmp 78) _ rfl _ _ _ (m.has 43 76 rfl rfl) (m.has 45 78 rfl rfl) (by omega) (by omega) (by omega) (by omega) hj
    · exact ok_index (wanted_some 37 true rfl 70 rfl true (m.has 37 70 rfl rfl)) (.tmp 74) (.tmp 79) rfl _ _ _ _ j (m.has 41 74 rfl rfl) (m.has 46 79 rfl rfl) hjl
    · exact ok_loadb (wanted_some 37 true rfl 70 rfl true (m.has 37 70 rfl rfl)) (.tmp 80) rfl _ _ (m.has 47 80 rfl rfl) ((hcell.keep m.grew).val)
    · exact ok_move (wanted_some 37 true rfl 70 rfl true (m.has 37 70 rfl rfl)) (.tmp 3) rfl (m.old 3 rfl)
    · exact ok_u8eq (wanted_some 37 true rfl 70 rfl true (m.has 37 70 rfl rfl)) (.tmp 81) (.tmp 82) _ rfl _ _ (m.has 48 81 rfl rfl) (m.has 49 82 rfl rfl) _ rfl
    · exact ok_booleq (wanted_some 37 true rfl 70 rfl true (m.has 37 70 rfl rfl)) (.tmp 73) (.tmp 83) _ rfl _ _ (m.has 40 73 rfl rfl) (m.has 50 83 rfl rfl) _ hres
    · exact ok_pickT (wanted_none rfl) (.tmp 70) _ _ rfl (m.has 37 70 rfl rfl) (m.has 51 84 rfl rfl)
    · exact ok_assign (wanted_none rfl) (.tmp 85) rfl (m.has 52 85 rfl rfl)
    intro f w3 hg hf
    exact fin_ret ‹_› rfl rfl rfl 53 rfl ⟨congrArg Ending.returned (hf 53 (by decide)), fin w3 hg⟩
  · have hne : ¬ len0 = len1 := hsm
    have hneb : decide (bs0 = bs1) = false := decide_eq_false fun e => hne (by rw [← hl0, ← hl1, e])
    refine region_inv [Fact.is (.bool true), Fact.is (.bool true), Fact.is (.slice (some ⟨b0, off0, none⟩) len0 cap0), Fact.is (.slice (some ⟨g, 0, none⟩) len0 cx), Fact.is (.int .i64 ((len0 : Nat) : Int)), Fact.is (.slice (some ⟨b0, off0, none⟩) len0 cap0), Fact.is (.int .i64 ((len0 : Nat) : Int)), Fact.is (.bool true), Fact.is (.bool true), Fact.is (.bool true), Fact.is (.slice (some ⟨b0, off0, none⟩) len0 cap0), Fact.is (.slice (some ⟨g, 0, none⟩) len0 cx), Fact.is (.int .i64 ((len0 : Nat) : Int)), Fact.is (.slice (some ⟨b0, off0, none⟩) len0 cap0), Fact.is (.slice (some ⟨b0, off0, none⟩) len0 cap0), Fact.is (.int .i64 ((len0 : Nat) : Int)), Fact.is (.bool true), Fact.is (.bool true), Fact.is (.bool true), Fact.is (.slice (some ⟨b0, off0, none⟩) len0 cap0), Fact.is (.int .i64 ((len0 : Nat) : Int)), Fact.is (.slice a1 len1 cap1), Fact.is (.int .i64 ((len1 : Nat) : Int)), Fact.is (.bool false), Fact.is (.bool false), Fact.is (.slice (some ⟨b0, off0, none⟩) len0 cap0), Fact.is (.slice a1 len1 cap1), Fact.is (.int .i64 ((0 : Nat) : Int)), Fact.is (.bool true), Fact.is (.bool true), Fact.is (.slice (some ⟨b0, off0, none⟩) len0 cap0), Fact.is (.slice a1 len1 cap1), Fact.is (.bool false), Fact.is (.bool true), Fact.is (.bool true), Fact.is (.bool true), Fact.is (.bool true), Fact.is (.bool true), Fact.is (.slice (some ⟨b0, off0, none⟩) len0 cap0), Fact.is (.slice (some ⟨g, 0, none⟩) len0 cx), Fact.is (.bool (decide (bs0 = bsx))), Fact.is (.slice (some ⟨b0, off0, none⟩) len0 cap0), Fact.is (.int .u8 a2), Fact.is (.int .i64 a2), Fact.is (.slice (some ⟨b0, off0, none⟩) len0 cap0), Fact.is (.int .i64 ((len0 : Nat) : Int)), Fact.is (.int .i64 (j : Int)), Fact.is (.pointer (some ⟨b0, off0 + j, none⟩)), Fact.is (.int .u8 (y : Int)), Fact.is (.int .u8 a3), Fact.is (.bool (decide (y = a3))), Fact.is (.bool true), Fact.is (.bool true), Fact.is (.bool true)] (by kernel_rfl) (by kernel_rfl) ⟨fun a w1 m => ?_, fun a w1 m => ?_, fun a w1 m => ?_, fun a w1 m => ?_, fun a w1 m => ?_, fun a w1 m => ?_, fun a w1 m => ?_, fun a w1 m => ?_, fun a w1 m => ?_, fun a w1 m => ?_, fun a w1 m => ?_, fun a w1 m => ?_, fun a w1 m => ?_, fun a w1 m => ?_, fun a w1 m => ?_, fun a w1 m => ?_, fun a w1 m => ?_, fun a w1 m => ?_, fun a w1 m => ?_, fun a w1 m => ?_, fun a w1 m => ?_, fun a w1 m => ?_, fun a w1 m => ?_, fun a w1 m => ?_, fun a w1 m => ?_, fun a w1 m => ?_, fun a w1 m => ?_, fun a w1 m => ?_, fun a w1 m => ?_, fun a w1 m => ?_, fun a w1 m => ?_, fun a w1 m => ?_, fun a w1 m => ?_, fun a w1 m => ?_, fun a w1 m => ?_, fun a w1 m => ?_, fun a w1 m => ?_, fun a w1 m => ?_, fun a w1 m => ?_, fun a w1 m => ?_, fun a w1 m => ?_, fun a w1 m => ?_, fun a w1 m => ?_, fun a w1 m => ?_, fun a w1 m => ?_, fun a w1 m => ?_, fun a w1 m => ?_, fun a w1 m => ?_, fun a w1 m => ?_, fun a w1 m => ?_, fun a w1 m => ?_, fun a w1 m => ?_, fun a w1 m => ?_, fun a w1 m => ?_, trivial⟩ ?_
    · exact ok_fn (wanted_none rfl) _ _ _ rfl _ map0 go_known3 (known3_any w1 (hT.keep m.grew)) (fun e w' ⟨h1, h2⟩ => ⟨_, h1, rfl, h2⟩)
    · exact ok_move (wanted_none rfl) (.tmp 33) rfl (m.has 0 33 rfl rfl)
    · exact ok_move (wanted_some 1 true rfl 34 rfl true (m.has 1 34 rfl rfl)) (.tmp 0) rfl (m.old 0 rfl)
    · exact ok_move (wanted_some 1 true rfl 34 rfl true (m.has 1 34 rfl rfl)) (.tmp 9) rfl (m.old 9 rfl)
    · exact ok_fn (wanted_some 1 true rfl 34 rfl true (m.has 1 34 rfl rfl)) _ _ _ rfl _ (map2 (m.has 2 35 rfl rfl) (m.has 3 36 rfl rfl)) go_steps (steps_any _ _ len0 _ len0 _ w1 (by omega) (by omega)) (fun e w' ⟨h1, h2⟩ => ⟨_, h1, by rw [if_pos rfl]; rfl, h2 ▸ Grew.refl _⟩)
    · exact ok_move (wanted_some 1 true rfl 34 rfl true (m.has 1 34 rfl rfl)) (.tmp 0) rfl (m.old 0 rfl)
    · exact ok_len (wanted_some 1 true rfl 34 rfl true (m.has 1 34 rfl rfl)) (.tmp 38) rfl _ _ _ (m.has 5 38 rfl rfl)
    · exact ok_inteq (wanted_some 1 true rfl 34 rfl true (m.has 1 34 rfl rfl)) (.tmp 37) (.tmp 39) _ rfl _ _ (m.has 4 37 rfl rfl) (m.has 6 39 rfl rfl) _ (decide_eq_true rfl)
    · exact ok_pickT (wanted_none rfl) (.tmp 34) _ _ rfl (m.has 1 34 rfl rfl) (m.has 7 40 rfl rfl)
    · exact ok_move (wanted_none rfl) (.tmp 41) rfl (m.has 8 41 rfl rfl)
    · exact ok_move (wanted_some 9 true rfl 42 rfl true (m.has 9 42 rfl rfl)) (.tmp 0) rfl (m.old 0 rfl)
    · exact ok_move (wanted_some 9 true rfl 42 rfl true (m.has 9 42 rfl rfl)) (.tmp 9) rfl (m.old 9 rfl)
    · exact ok_fn (wanted_some 9 true rfl 42 rfl true (m.has 9 42 rfl rfl)) _ _ _ rfl _ (map2 (m.has 10 43 rfl rfl) (m.has 11 44 rfl rfl)) go_steps (steps_any _ _ len0 _ len0 _ w1 (by omega) (by omega)) (fun e w' ⟨h1, h2⟩ => ⟨_, h1, by rw [if_pos rfl]; rfl, h2 ▸ Grew.refl _⟩)
    · exact ok_move (wanted_some 9 true rfl 42 rfl true (m.has 9 42 rfl rfl)) (.tmp 0) rfl (m.old 0 rfl)
    · exact ok_move (wanted_some 9 true rfl 42 rfl true (m.has 9 42 rfl rfl)) (.tmp 0) rfl (m.old 0 rfl)
    · exact ok_fn (wanted_some 9 true rfl 42 rfl true (m.has 9 42 rfl rfl)) _ _ _ rfl _ (map2 (m.has 13 46 rfl rfl) (m.has 14 47 rfl rfl)) go_steps (steps_any _ _ len0 _ len0 _ w1 (by omega) (by omega)) (fun e w' ⟨h1, h2⟩ => ⟨_, h1, by rw [if_pos rfl]; rfl, h2 ▸ Grew.refl _⟩)
    · exact ok_inteq (wanted_some 9 true rfl 42 rfl true (m.has 9 42 rfl rfl)) (.tmp 45) (.tmp 48) _ rfl _ _ (m.has 12 45 rfl rfl) (m.has 15 48 rfl rfl) _ (decide_eq_true rfl)
    · exact ok_pickT (wanted_none rfl) (.tmp 42) _ _ rfl (m.has 9 42 rfl rfl) (m.has 16 49 rfl rfl)
    · exact ok_move (wanted_none rfl) (.tmp 50) rfl (m.has 17 50 rfl rfl)
    · exact ok_move (wanted_some 18 true rfl 51 rfl true (m.has 18 51 rfl rfl)) (.tmp 0) rfl (m.old 0 rfl)
    · exact ok_len (wanted_some 18 true rfl 51 rfl true (m.has 18 51 rfl rfl)) (.tmp 52) rfl _ _ _ (m.has 19 52 rfl rfl)
    · exact ok_move (wanted_some 18 true rfl 51 rfl true (m.has 18 51 rfl rfl)) (.tmp 1) rfl (m.old 1 rfl)
    · exact ok_len (wanted_some 18 true rfl 51 rfl true (m.has 18 51 rfl rfl)) (.tmp 54) rfl _ _ _ (m.has 21 54 rfl rfl)
    · exact ok_inteq (wanted_some 18 true rfl 51 rfl true (m.has 18 51 rfl rfl)) (.tmp 53) (.tmp 55) _ rfl _ _ (m.has 20 53 rfl rfl) (m.has 22 55 rfl rfl) _ (decide_eq_false (by omega))
    · exact ok_move (wanted_some 18 true rfl 51 rfl true (m.has 18 51 rfl rfl)) (.tmp 56) rfl (m.has 23 56 rfl rfl)
    · exact ok_move (wanted_some 24 false rfl 57 rfl false (m.has 24 57 rfl rfl)) (.tmp 0) rfl (m.old 0 rfl)
    · exact ok_move (wanted_some 24 false rfl 57 rfl false (m.has 24 57 rfl rfl)) (.tmp 1) rfl (m.old 1 rfl)
    · exact ok_fn (wanted_some 24 false rfl 57 rfl false (m.has 24 57 rfl rfl)) _ _ _ rfl _ (map2 (m.has 25 58 rfl rfl) (m.has 26 59 rfl rfl)) go_steps (steps_any _ _ len0 _ len1 _ w1 (by omega) (by omega)) (fun e w' ⟨h1, h2⟩ => ⟨_, h1, by rw [if_neg hne]; rfl, h2 ▸ Grew.refl _⟩)
    · exact ok_inteq (wanted_some 24 false rfl 57 rfl false (m.has 24 57 rfl rfl)) (.tmp 60) (.const (.int .i64 0)) _ rfl _ _ (m.has 27 60 rfl rfl) (rfl) _ (decide_eq_true rfl)
    · exact ok_move (wanted_some 24 false rfl 57 rfl false (m.has 24 57 rfl rfl)) (.tmp 61) rfl (m.has 28 61 rfl rfl)
    · exact ok_move (wanted_some 29 true rfl 62 rfl true (m.has 29 62 rfl rfl)) (.tmp 0) rfl (m.old 0 rfl)
    · exact ok_move (wanted_some 29 true rfl 62 rfl true (m.has 29 62 rfl rfl)) (.tmp 1) rfl (m.old 1 rfl)
    · exact ok_fn (wanted_some 29 true rfl 62 rfl true (m.has 29 62 rfl rfl)) _ _ _ rfl _ (map2 (m.has 30 63 rfl rfl) (m.has 31 64 rfl rfl)) go_equal (show Calls Tryd.prog 23 #[.slice (some ⟨b0, off0, none⟩) len0 cap0, .slice a1 len1 cap1] w1 (fun e w' => e = .returned (.bool false) ∧ Below w1.heap.size w1 w') by have h := equal_any (some ⟨b0, off0, none⟩) a1 bs0 bs1 len0 cap0 len1 cap1 w1 (hp0.keep m.grew).bytes (hp1.keep m.grew).bytes hl0 hl1 (by omega) (by omega); rw [hneb] at h; exact h) (fun e w' ⟨h1, h2⟩ => ⟨_, h1, rfl, h2⟩)
    · exact ok_not1 (wanted_some 29 true rfl 62 rfl true (m.has 29 62 rfl rfl)) _ (.tmp 65) rfl false (m.has 32 65 rfl rfl) rfl
    · exact ok_pickT (wanted_some 24 false rfl 57 rfl false (m.has 24 57 rfl rfl)) (.tmp 62) _ _ rfl (m.has 29 62 rfl rfl) (m.has 33 66 rfl rfl)
    · exact ok_pickF (wanted_some 18 true rfl 51 rfl true (m.has 18 51 rfl rfl)) (.tmp 57) _ _ rfl (m.has 24 57 rfl rfl) (m.has 34 67 rfl rfl)
    · exact ok_pickT (wanted_none rfl) (.tmp 51) _ _ rfl (m.has 18 51 rfl rfl) (m.has 35 68 rfl rfl)
    · exact ok_move (wanted_none rfl) (.tmp 69) rfl (m.has 36 69 rfl rfl)
    · exact ok_move (wanted_some 37 true rfl 70 rfl true (m.has 37 70 rfl rfl)) (.tmp 0) rfl (m.old 0 rfl)
    · exact ok_move (wanted_some 37 true rfl 70 rfl true (m.has 37 70 rfl rfl)) (.tmp 9) rfl (m.old 9 rfl)
    · exact ok_fn (wanted_some 37 true rfl 70 rfl true (m.has 37 70 rfl rfl)) _ _ _ rfl _ (map2 (m.has 38 71 rfl rfl) (m.has 39 72 rfl rfl)) go_equal (equal_any _ _ bs0 bsx len0 cap0 len0 cx w1 (hp0.keep m.grew).bytes (hpx.keep m.grew).bytes hl0 hlx (by omega) (by omega)) (fun e w' ⟨h1, h2⟩ => ⟨_, h1, rfl, h2⟩)
    · exact ok_move (wanted_some 37 true rfl 70 rfl true (m.has 37 70 rfl rfl)) (.tmp 0) rfl (m.old 0 rfl)
    · exact ok_move (wanted_some 37 true rfl 70 rfl true (m.has 37 70 rfl rfl)) (.tmp 2) rfl (m.old 2 rfl)
    · exact ok_u8int (wanted_some 37 true rfl 70 rfl true (m.has 37 70 rfl rfl)) (.tmp 75) rfl _ (m.has 42 75 rfl rfl) (by omega) (by omega)
    · exact ok_move (wanted_some 37 true rfl 70 rfl true (m.has 37 70 rfl rfl)) (.tmp 0) rfl (m.old 0 rfl)
    · exact ok_len (wanted_some 37 true rfl 70 rfl true (m.has 37 70 rfl rfl)) (.tmp 77) rfl _ _ _ (m.has 44 77 rfl rfl)
    · exact ok_rem (wanted_some 37 true rfl 70 rfl true (m.has 37 70 rfl rfl)) (.tmp 76) (.tmp 78) _ rfl _ _ _ (m.has 43 76 rfl rfl) (m.has 45 78 rfl rfl) (by omega) (by omega) (by omega) (by omega) hj
    · exact ok_index (wanted_some 37 true rfl 70 rfl true (m.has 37 70 rfl rfl)) (.tmp 74) (.tmp 79) rfl _ _ _ _ j (m.has 41 74 rfl rfl) (m.has 46 79 rfl rfl) hjl
    · exact ok_loadb (wanted_some 37 true rfl 70 rfl true (m.has 37 70 rfl rfl)) (.tmp 80) rfl _ _ (m.has 47 80 rfl rfl) ((hcell.keep m.grew).val)
    · exact ok_move (wanted_some 37 true rfl 70 rfl true (m.has 37 70 rfl rfl)) (.tmp 3) rfl (m.old 3 rfl)
    · exact ok_u8eq (wanted_some 37 true rfl 70 rfl true (m.has 37 70 rfl rfl)) (.tmp 81) (.tmp 82) _ rfl _ _ (m.has 48 81 rfl rfl) (m.has 49 82 rfl rfl) _ rfl
    · exact ok_booleq (wanted_some 37 true rfl 70 rfl true (m.has 37 70 rfl rfl)) (.tmp 73) (.tmp 83) _ rfl _ _ (m.has 40 73 rfl rfl) (m.has 50 83 rfl rfl) _ hres
    · exact ok_pickT (wanted_none rfl) (.tmp 70) _ _ rfl (m.has 37 70 rfl rfl) (m.has 51 84 rfl rfl)
    · exact ok_assign (wanted_none rfl) (.tmp 85) rfl (m.has 52 85 rfl rfl)
    intro f w3 hg hf
    exact fin_ret ‹_› rfl rfl rfl 53 rfl ⟨congrArg Ending.returned (hf 53 (by decide)), fin w3 hg⟩
end Go.Proofs.YtigocnaminkodaaDoor
