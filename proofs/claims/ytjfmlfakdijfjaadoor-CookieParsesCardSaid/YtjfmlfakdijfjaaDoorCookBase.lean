/- Contracts of the cookie package's small functions: octets, mayBe, bare, fresh, cookieOf, begins, Prefix. -/
import Derived.Test.YtjfmlfakdijfjaaDoorCookLays
import Derived.Test.YtjfmlfakdijfjaaDoorHeadSmall
import Derived.Test.YtjfmlfakdijfjaaDoorClone
import Derived.Laws.Rows
namespace Go.Proofs.YtjfmlfakdijfjaaDoor
open Go.ChangeShapes Go.WideShapes Go.ChangeAt Go.RowKit
set_option linter.unusedVariables false
set_option linter.unusedSimpArgs false

/-! octets -/
def noOct : List UInt8 := [34, 44, 59, 92]
theorem oct_low (c : UInt8) (h : c.toNat < 33) : octB c = false := by unfold octB; rw [decide_eq_false (by omega)]; rfl
theorem oct_hi (c : UInt8) (h : 126 < c.toNat) : octB c = false := by unfold octB; rw [show decide (c.toNat ≤ 126) = false from decide_eq_false (by omega)]; simp
theorem oct_mid (c : UInt8) (h1 : 33 ≤ c.toNat) (h2 : c.toNat ≤ 126) : noOct.contains c = !octB c := by
  have := each_byte (p := fun c => 33 ≤ c.toNat → c.toNat ≤ 126 → noOct.contains c = !octB c) (by decide +kernel) c
  exact this h1 h2
set_option maxRecDepth 8000 in
set_option maxHeartbeats 2000000 in
theorem octets_any (l : List UInt8) (w : World) (hl : l.length ≤ 1000000) :
    Calls Tryd.prog 49 #[.string (strOf l)] w fun e w' => e = .returned (.bool (octL l)) ∧ Below w.heap.size w w' := by
  have HSZ := hideIt (strOf_size l)
  obtain ⟨R, hR⟩ : ∃ R, octL l = R := ⟨_, rfl⟩
  rw [hR]
  have HR := hideIt hR
  clear hR
  go_enter Tryd.func49, Tryd.ntmps49
  go_wp2
  go_loopw [] (fun wr => ∃ k : Nat, k ≤ l.length ∧ wr = w.iter (strOf l) k ∧ (l.take k).all octB = true) (fun wr => l.length - wr.iterPos w.heap.size)
  case atStart => exact ⟨0, Nat.zero_le _, rfl, rfl⟩
  case round =>
    obtain ⟨k, hk, rfl, ha⟩ := hrel
    have HA := hideIt ha
    clear ha
    by_cases hkl : k < l.length
    · have hks : k < (strOf l).size := by have := HSZ.out; omega
      by_cases hlow : (l[k]).toNat < 33
      · have hnx : ∀ ty, (Instr.next (.pointer (some ⟨w.heap.size, 0, none⟩)) true ty).run Tryd.prog (w.iter (strOf l) k) = .ok (.tuple #[.bool true, .int .i64 (k : Int), .int .i32 ((l[k]).toNat : Int)]) (w.iter (strOf l) (k + 1)) := fun ty => run_next_ascii (P := Tryd.prog) w (strOf l) k ty hks (show (l[k]).toNat < 128 by omega)
        have HB := hideIt (below_iter w (strOf l) (k + 1))
        have E : Hid (R = false) := hideIt (by rw [← HR.out, octL, all_not octB l k hkl (oct_low _ hlow)])
        have q1 : ((l[k]).toNat : Int) < 33 := by omega
        clear hlow
        generalize (l[k]).toNat = u at *
        go_wp2_with fail
        go_ret
        exact ⟨by rw [E.out]; rfl, HB.out⟩
      · by_cases hmid : (l[k]).toNat ≤ 126
        · have hasc : (l[k]).toNat < 128 := by omega
          have hnx : ∀ ty, (Instr.next (.pointer (some ⟨w.heap.size, 0, none⟩)) true ty).run Tryd.prog (w.iter (strOf l) k) = .ok (.tuple #[.bool true, .int .i64 (k : Int), .int .i32 ((l[k]).toNat : Int)]) (w.iter (strOf l) (k + 1)) := fun ty => run_next_ascii (P := Tryd.prog) w (strOf l) k ty hks hasc
          have HC := hideIt (contains_ascii noOct (l[k]).toNat (w.iter (strOf l) (k + 1)) hasc)
          rw [UInt8.ofNat_toNat, oct_mid _ (by omega) hmid] at HC
          have HB := hideIt (below_iter w (strOf l) (k + 1))
          have q1 : ¬ ((l[k]).toNat : Int) < 33 := by omega
          have q2 : ¬ 126 < ((l[k]).toNat : Int) := by omega
          cases ht : octB l[k]
          · rw [ht] at HC
            have E : Hid (R = false) := hideIt (by rw [← HR.out, octL, all_not octB l k hkl ht])
            clear ht hasc hmid hlow
            generalize (l[k]).toNat = u at *
            go_wp2_with fail
            refine HC.out.mono ?_
            rintro e w2 ⟨rfl, rfl⟩
            go_wp2_with fail
            go_ret
            exact ⟨by rw [E.out]; rfl, HB.out⟩
          · rw [ht] at HC
            have N : Hid ((l.take (k + 1)).all octB = true) := hideIt (all_step octB l k (k + 1) (by omega) hkl HA.out fun j hj h1 h2 => by
              obtain rfl : j = k := by omega
              exact ht)
            clear ht hasc hmid hlow
            generalize (l[k]).toNat = u at *
            go_wp2_with fail
            refine HC.out.mono ?_
            rintro e w2 ⟨rfl, rfl⟩
            go_wp2_with fail
            go_roundw
            case rel => exact ⟨k + 1, hkl, rfl, N.out⟩
            case measure => rw [iterPos_at _ _ _ _ rfl, iterPos_at _ _ _ _ rfl]; omega
        · have E : Hid (R = false) := hideIt (by rw [← HR.out, octL, all_not octB l k hkl (oct_hi _ (by omega))])
          obtain ⟨r, k2, hr, hnx⟩ : ∃ (r k2 : Nat), 126 < r ∧ ∀ ty, (Instr.next (.pointer (some ⟨w.heap.size, 0, none⟩)) true ty).run Tryd.prog (w.iter (strOf l) k) = .ok (.tuple #[.bool true, .int .i64 (k : Int), .int .i32 (r : Int)]) (w.iter (strOf l) k2) := by
            by_cases hasc : (l[k]).toNat < 128
            · exact ⟨(l[k]).toNat, k + 1, by omega, fun ty => run_next_ascii (P := Tryd.prog) w (strOf l) k ty hks hasc⟩
            · have h8 : 128 ≤ (l[k]).toNat := by omega
              obtain ⟨d1, d2, d3⟩ := dec_high (l.drop k) (by rw [at4_dropget l k hkl]; exact h8)
              refine ⟨(dec (l.drop k)).1, k + wd (l.drop k), by omega, fun ty => ?_⟩
              have := run_next_any (P := Tryd.prog) w (strOf l) k ty hks
              rw [decode_strOf] at this
              exact this
          have HB := hideIt (below_iter w (strOf l) k2)
          have q1 : ¬ (r : Int) < 33 := by omega
          have q2 : 126 < (r : Int) := by omega
          clear hmid hlow hr
          go_wp2_with fail
          go_ret
          exact ⟨by rw [E.out]; rfl, HB.out⟩
    · obtain rfl : k = l.length := by omega
      have hnx : ∀ ty, (Instr.next (.pointer (some ⟨w.heap.size, 0, none⟩)) true ty).run Tryd.prog (w.iter (strOf l) l.length) = .ok (.tuple #[.bool false]) (w.iter (strOf l) l.length) := fun ty => run_next_end (P := Tryd.prog) w (strOf l) l.length ty (by have := HSZ.out; omega)
      have HB := hideIt (below_iter w (strOf l) l.length)
      have E : Hid (R = true) := hideIt (by
        have h1 := HA.out
        rw [List.take_length] at h1
        rw [← HR.out, octL, h1])
      go_wp2_with fail
      go_ret
      exact ⟨by rw [E.out]; rfl, HB.out⟩
theorem go_octets : goFn Tryd.prog 49 = true := by kernel_rfl

/-! mayBe -/
theorem mayc_any (p : PairL) (w : World) (h1 : p.1.length ≤ 1000000) (h2 : p.2.length ≤ 1000000) :
    Calls Tryd.prog 35 #[pairV p] w fun e w' => e = .returned (.bool (okC p)) ∧ Below w.heap.size w w' := by
  obtain ⟨n, v⟩ := p
  have HT := hideIt (fun w => token_any n w h1)
  have HV := hideIt (fun w => octets_any v w h2)
  unfold okC pairV
  simp only at HT HV ⊢
  clear h1 h2
  cases ht : tokenL n
  · rw [ht] at HT
    clear ht HV
    go_enter Tryd.func35, Tryd.ntmps35
    go_wp2_with fail
    refine (HT.out _).mono ?_
    rintro e w1 ⟨rfl, hb⟩
    have HB := hideIt (below_then (below_new _ _) hb)
    clear hb HT
    go_wp2_with fail
    go_ret
    exact ⟨rfl, HB.out⟩
  · rw [ht] at HT
    clear ht
    generalize octL v = R at *
    go_enter Tryd.func35, Tryd.ntmps35
    go_wp2_with fail
    refine (HT.out _).mono ?_
    rintro e w1 ⟨rfl, hb⟩
    have hc := (hb.cell (p := ⟨w.heap.size, 1, none⟩) (by rw [alloc_size]; exact Nat.lt_succ_self _)).trans (show _ = some (.string (strOf v)) from by rw [cell_of_row _ _ _ _ _ _ (heap_alloc_new w _)]; rfl)
    have HB := hideIt (below_then (below_new _ _) hb)
    clear hb HT
    go_wp2_with fail
    refine (HV.out _).mono ?_
    rintro e w2 ⟨rfl, hb⟩
    have HB2 := hideIt (below_then HB.out hb)
    clear hb HV HB
    go_wp2_with fail
    go_ret
    exact ⟨by simp, HB2.out⟩
theorem go_mayc : goFn Tryd.prog 35 = true := by kernel_rfl

/-! bare -/
theorem bare_any (l : List UInt8) (w : World) (hl : l.length ≤ 1000000) :
    Calls Tryd.prog 53 #[.string (strOf l)] w fun e w' => e = .returned (.string (strOf (unqL l))) ∧ w' = w := by
  have hpl : (preQ l).length ≤ l.length := by unfold preQ Lib.trimPrefix; split <;> simp
  have H1 := hideIt (cutpre_any l w)
  have H2 := hideIt (cutsuf_any (preQ l) w (by omega))
  have E := hideIt (unq_is l)
  obtain ⟨R, hR⟩ : ∃ R, unqL l = R := ⟨_, rfl⟩
  rw [hR] at E ⊢
  clear hR hpl
  generalize preQ l = a at *
  generalize hasPQ l = p at *
  generalize hasSQ a = q at *
  generalize sufQ a = b at *
  cases p
  · have E2 : Hid (R = l) := hideIt E.out
    go_enter Tryd.func53, Tryd.ntmps53
    go_wp2_with fail
    refine H1.out.mono ?_
    rintro e w1 ⟨rfl, rfl⟩
    go_wp2_with fail
    refine H2.out.mono ?_
    rintro e w2 ⟨rfl, rfl⟩
    go_wp2_with fail
    go_ret
    exact ⟨by rw [E2.out]; rfl, rfl⟩
  · cases q
    · have E2 : Hid (R = l) := hideIt E.out
      go_enter Tryd.func53, Tryd.ntmps53
      go_wp2_with fail
      refine H1.out.mono ?_
      rintro e w1 ⟨rfl, rfl⟩
      go_wp2_with fail
      refine H2.out.mono ?_
      rintro e w2 ⟨rfl, rfl⟩
      go_wp2_with fail
      go_ret
      exact ⟨by rw [E2.out]; rfl, rfl⟩
    · have E2 : Hid (R = b) := hideIt E.out
      go_enter Tryd.func53, Tryd.ntmps53
      go_wp2_with fail
      refine H1.out.mono ?_
      rintro e w1 ⟨rfl, rfl⟩
      go_wp2_with fail
      refine H2.out.mono ?_
      rintro e w2 ⟨rfl, rfl⟩
      go_wp2_with fail
      go_ret
      exact ⟨by rw [E2.out]; rfl, rfl⟩
theorem go_bare : goFn Tryd.prog 53 = true := by kernel_rfl

/-! fresh -/
theorem go_clone11 : goFn Tryd.prog 51 = true := by kernel_rfl
theorem results_P1 {fn : Func} {q : Tmp} (h : fn.results = #[.cell q 30]) (tmps : Array Value) (w : World) (g : Nat) (p : PairL) (hq : tmps.getD q undef = .pointer (some ⟨g, 0, none⟩)) (hA : PCell w g p) :
    (results fn tmps).run Tryd.prog w = .ok (pairV p) w :=
  results_cell_row h tmps w g 30 _ (0, 0) _ hq hA Tryd.underlying30 rfl (by kernel_rfl)
set_option maxRecDepth 100000 in
set_option maxHeartbeats 2000000 in
theorem fresh_any (p : PairL) (w : World) (h1 : p.1.length ≤ 1000000) (h2 : p.2.length ≤ 1000000) :
    Calls Tryd.prog 38 #[pairV p] w fun e w' => e = .returned (pairV p) ∧ Below w.heap.size w w' := by
  have HL1 := hideIt h1
  have HL2 := hideIt h2
  have P1 := hideIt (PCell.new w p)
  have P0 := hideIt (PCell.new (w.alloc (.cells #[.string (strOf p.1), .string (strOf p.2)] 30)) PairZ)
  have B0 := hideIt (below_then (below_new w (.cells #[.string (strOf p.1), .string (strOf p.2)] 30)) (below_new _ (.cells #[.string (strOf PairZ.1), .string (strOf PairZ.2)] 30)))
  have P1' := hideIt (P1.out.keep (below_new _ (.cells #[.string (strOf PairZ.1), .string (strOf PairZ.2)] 30)) P1.out.lt)
  rw [alloc_size] at P0
  clear h1 h2 P1
  unfold pairV
  go_enter Tryd.func38, Tryd.ntmps38
  go_upto_region 1 with fail
  refine region_tail 7 [Fact.is (.pointer (some ⟨w.heap.size, 0, none⟩)), Fact.str (p.1), Fact.str (p.1), Fact.is (.pointer (some ⟨w.heap.size, 1, none⟩)), Fact.str (p.2), Fact.str (p.2), Fact.is (pairV p)] (by kernel_rfl) (by kernel_rfl) (by kernel_rfl) ⟨fun a w1 m => ?_, fun a w1 m => ?_, fun a w1 m => ?_, fun a w1 m => ?_, fun a w1 m => ?_, fun a w1 m => ?_, fun a w1 m => ?_, trivial⟩ ?_
  · exact ok_field0 (wanted_none rfl) (.tmp 1) rfl w.heap.size 0 (m.old 1 rfl)
  · exact ok_loadS (wanted_none rfl) (.tmp 3) rfl ⟨w.heap.size, 0, none⟩ _ (m.has 0 3 rfl rfl) (P1'.out.keep m.grew P1'.out.lt).cell0
  · exact ok_fn (wanted_none rfl) _ _ _ rfl _ (map1 (m.has 1 4 rfl rfl)) go_clone11 (clone_any _ w1 (by rw [strOf_size]; have := HL1.out; omega)) (fun e w' ⟨h1, h2⟩ => ⟨_, h1, rfl, h2⟩)
  · exact ok_field1 (wanted_none rfl) (.tmp 1) rfl w.heap.size 0 (m.old 1 rfl)
  · exact ok_loadS (wanted_none rfl) (.tmp 6) rfl ⟨w.heap.size, 1, none⟩ _ (m.has 3 6 rfl rfl) (P1'.out.keep m.grew P1'.out.lt).cell1
  · exact ok_fn (wanted_none rfl) _ _ _ rfl _ (map1 (m.has 4 7 rfl rfl)) go_clone11 (clone_any _ w1 (by rw [strOf_size]; have := HL2.out; omega)) (fun e w' ⟨h1, h2⟩ => ⟨_, h1, rfl, h2⟩)
  · exact ok_structP (wanted_none rfl) (.tmp 5) (.tmp 8) rfl _ _ (m.has 2 5 rfl rfl) (m.has 5 8 rfl rfl)
  intro f w9 hg hf
  have e6 : f 6 = pairV p := hf 6 (by decide)
  have B9 := hideIt (below_then B0.out hg)
  clear hf
  simp only [List.take, List.drop, putAll, Act.put, List.setIfInBounds_toArray, List.set_cons_succ, List.set_cons_zero]
  rw [e6]
  clear e6
  have P9 := P0.out.keep hg P0.out.lt
  have q0 := P9.cell0
  have q1 := P9.cell1
  have q2 := P9.open0
  have q3 := P9.open1
  have PS := hideIt (P9.set p)
  have BS := hideIt (below_setP B9.out (show w.heap.size ≤ w.heap.size + 1 by omega) (.string (strOf p.1)) (.string (strOf p.2)))
  clear P9 hg B9 P0 P1' HL1 HL2 B0
  unfold pairV
  generalize strOf p.1 = sa at *
  generalize strOf p.2 = sb at *
  go_wp2_with fail
  (try simp only [Exit.inBlock, Exit.then])
  refine bodyPost_ret (results_P1 Tryd.results38 _ _ (w.heap.size + 1) p rfl (by exact PS.out)) rfl ?_
  exact ⟨rfl, BS.out⟩
theorem go_fresh : goFn Tryd.prog 38 = true := by kernel_rfl

/-! Prefix -/
set_option maxHeartbeats 2000000 in
theorem begins_any (l f : List UInt8) (w : World) (hl : l.length ≤ 140737488355328) (hf : f.length ≤ 1000) :
    Calls Tryd.prog 41 #[.string (strOf l), .string (strOf f)] w fun e w' => e = .returned (.bool (beginsL l f)) ∧ Below w.heap.size w w' := by
  have z1 := strOf_size l
  have z2 := strOf_size f
  obtain ⟨R, hR⟩ : ∃ R, beginsL l f = R := ⟨_, rfl⟩
  rw [hR]
  by_cases h : f.length ≤ l.length
  · have E : Hid (R = sameL (l.take f.length) f) := hideIt (by rw [← hR]; unfold beginsL; rw [decide_eq_true h]; rfl)
    have hs : ∀ w', (Instr.slice 9 (.string (strOf l)) none (some (.int .i64 (f.length : Int))) none).run Tryd.prog w' = .ok (.string (strOf (l.take f.length))) w' := fun w' => by
      have := run_slice_str w' l none (some (.int .i64 (f.length : Int))) .i64 .i64 0 f.length (.inl ⟨rfl, rfl⟩) (.inr rfl) (by omega) h
      simpa using this
    have HS := hideIt (fun w => same_any (l.take f.length) f w (fun _ => by simp; omega) (by simp; omega) (by omega))
    have hi : (f.length : Int) ≤ (l.length : Int) := by omega
    clear hR h
    generalize sameL (l.take f.length) f = Q at *
    generalize l.take f.length = lt at *
    go_enter Tryd.func41, Tryd.ntmps41
    go_wp2_with fail
    refine (HS.out _).mono ?_
    rintro e w1 ⟨rfl, hb⟩
    have HB := hideIt hb
    clear hb HS
    go_wp2_with fail
    go_ret
    exact ⟨by rw [E.out]; rfl, HB.out⟩
  · have E : Hid (R = false) := hideIt (by rw [← hR]; unfold beginsL; rw [decide_eq_false h]; rfl)
    have hi : ¬ (f.length : Int) ≤ (l.length : Int) := by omega
    clear hR h
    go_enter Tryd.func41, Tryd.ntmps41
    go_wp2_with fail
    go_ret
    exact ⟨by rw [E.out]; rfl, Below.refl _ _⟩
set_option maxHeartbeats 2000000 in
theorem prefix_any (l pa : List UInt8) (se dm : Bool) (w : World) (hl : l.length ≤ 140737488355328) :
    Calls Tryd.prog 26 #[.string (strOf l), .bool se, .string (strOf pa), .bool dm] w fun e w' => e = .returned (.bool (prefL l se pa dm)) ∧ Below w.heap.size w w' := by
  have H1 := hideIt (fun w => begins_any l hostF w hl (by decide))
  have H2 := hideIt (fun w => begins_any l secF w hl (by decide))
  have HP : ((strOf pa).toList == ([47] : List UInt8)) = decide (pa = [47]) := by
    rw [strOf_toList]
    by_cases h : pa = [47] <;> simp [h]
  obtain ⟨R, hR⟩ : ∃ R, prefL l se pa dm = R := ⟨_, rfl⟩
  rw [hR]
  unfold prefL at hR
  have E := hideIt hR
  clear hR hl
  generalize beginsL l hostF = b1 at *
  generalize beginsL l secF = b2 at *
  generalize decide (pa = [47]) = b3 at *
  cases b1
  · cases b2
    · have E2 : Hid (R = true) := hideIt E.out.symm
      go_enter Tryd.func26, Tryd.ntmps26
      go_wp2_with fail
      refine (H1.out _).mono ?_
      rintro e w1 ⟨rfl, hb⟩
      have B1 := hideIt hb
      clear hb H1
      go_wp2_with fail
      refine (H2.out _).mono ?_
      rintro e w2 ⟨rfl, hb⟩
      have B2 := hideIt (below_then B1.out hb)
      clear hb H2
      go_wp2_with fail
      go_ret
      exact ⟨by rw [E2.out]; rfl, B2.out⟩
    · have E2 : Hid (R = se) := hideIt E.out.symm
      go_enter Tryd.func26, Tryd.ntmps26
      go_wp2_with fail
      refine (H1.out _).mono ?_
      rintro e w1 ⟨rfl, hb⟩
      have B1 := hideIt hb
      clear hb H1
      go_wp2_with fail
      refine (H2.out _).mono ?_
      rintro e w2 ⟨rfl, hb⟩
      have B2 := hideIt (below_then B1.out hb)
      clear hb H2
      go_wp2_with fail
      go_ret
      exact ⟨by rw [E2.out]; rfl, B2.out⟩
  · have E2 : Hid (R = (se && (b3 && !dm))) := hideIt E.out.symm
    clear E H2
    cases se <;> cases b3 <;> cases dm
    all_goals
      go_enter Tryd.func26, Tryd.ntmps26
      go_wp2_with fail
      refine (H1.out _).mono ?_
      rintro e w1 ⟨rfl, hb⟩
      have B1 := hideIt hb
      clear hb H1
      go_wp2_with fail
      go_ret
      exact ⟨by rw [E2.out]; rfl, B1.out⟩
theorem go_cprefix : goFn Tryd.prog 26 = true := by kernel_rfl
end Go.Proofs.YtjfmlfakdijfjaaDoor
