/- Contract of the reference's one (a cookie). -/
import Derived.Test.YtjfmlfakdijfjaaDoorRefCook
import Derived.Test.YtjfmlfakdijfjaaDoorRefHTok
import Derived.Test.YtjfmlfakdijfjaaDoorCookOne
import Derived.Test.YtjfmlfakdijfjaaDoorStrRun
import Derived.Test.YtjfmlfakdijfjaaDoorPairCell
namespace Go.Proofs.YtjfmlfakdijfjaaDoor
open Go.ChangeShapes Go.WideShapes Go.ChangeAt Go.RowKit
set_option linter.unusedVariables false
set_option linter.unusedSimpArgs false

theorem unq_way (v : List UInt8) : (v.length < 2 ∧ unqL v = v) ∨ (∃ a : UInt8, 2 ≤ v.length ∧ v[0]? = some a ∧ a ≠ 34 ∧ unqL v = v) ∨ (∃ z : UInt8, 2 ≤ v.length ∧ v[0]? = some 34 ∧ v[v.length - 1]? = some z ∧ z ≠ 34 ∧ unqL v = v) ∨ (2 ≤ v.length ∧ v[0]? = some 34 ∧ v[v.length - 1]? = some 34 ∧ unqL v = (v.drop 1).take (v.length - 1 - 1)) := by
  have hh : v.head? = v[0]? := by rw [List.head?_eq_getElem?]
  have hl : v.getLast? = v[v.length - 1]? := by rw [List.getLast?_eq_getElem?]
  unfold unqL
  rw [hh, hl]
  by_cases h2 : 2 ≤ v.length
  · obtain ⟨a, ha⟩ : ∃ a, v[0]? = some a := ⟨_, List.getElem?_eq_getElem (by omega)⟩
    obtain ⟨z, hz⟩ : ∃ z, v[v.length - 1]? = some z := ⟨_, List.getElem?_eq_getElem (by omega)⟩
    rw [ha, hz]
    by_cases h34 : a = 34
    · subst h34
      by_cases hz34 : z = 34
      · subst hz34
        exact .inr (.inr (.inr ⟨h2, rfl, rfl, by rw [if_pos ⟨h2, rfl, rfl⟩]; rfl⟩))
      · exact .inr (.inr (.inl ⟨z, h2, rfl, rfl, hz34, by rw [if_neg]; rintro ⟨_, _, h⟩; exact hz34 (Option.some.inj h)⟩))
    · exact .inr (.inl ⟨a, h2, rfl, h34, by rw [if_neg]; rintro ⟨_, h, _⟩; exact h34 (Option.some.inj h)⟩)
  · exact .inl ⟨by omega, by rw [if_neg (fun h => h2 h.1)]⟩
def ROnePost (l : List UInt8) (w : World) (e : Ending) (w' : World) : Prop := ∃ p : PairL, e = .returned (.tuple #[pairV p, .bool (cookieL l).isSome]) ∧ (∀ q, cookieL l = some q → p = q) ∧ Below w.heap.size w w'
set_option maxRecDepth 8000 in
set_option maxHeartbeats 2000000 in
theorem rone_any (l : List UInt8) (w : World) (hl : l.length ≤ 1000000) :
    Calls Tryd.prog 43 #[.string (strOf l)] w (ROnePost l w) := by
  have hsz := strOf_size l
  have HPZ := hideIt (PCell.new w PairZ)
  have HBZ := hideIt (below_new w (.cells #[.string (strOf PairZ.1), .string (strOf PairZ.2)] 30))
  go_enter Tryd.func43, Tryd.ntmps43
  go_wp2
  obtain ⟨X, hX⟩ : ∃ X, w.alloc (.cells #[.string (strOf PairZ.1), .string (strOf PairZ.2)] 30) = X := ⟨_, rfl⟩
  rw [hX] at HPZ HBZ
  have HX : Hid (w.alloc (.cells #[.string ⟨#[]⟩, .string ⟨#[]⟩] 30) = X) := hideIt hX
  clear hX
  rw [HX.out]
  clear HX
  go_loopw [4] (fun i wr => ∃ k : Nat, k ≤ l.length ∧ i = .int .i64 (k : Int) ∧ (∀ j (hj : j < l.length), j < k → l[j] ≠ 61) ∧ wr = X) (fun i wr => l.length - (intOf i).toNat)
  case atStart => exact ⟨0, Nat.zero_le _, rfl, fun j _ h => by omega, rfl⟩
  case round =>
    obtain ⟨k, hk, rfl, ha, rfl⟩ := hrel
    have HA := hideIt ha
    have HKL := hideIt hk
    clear ha
    have hwk : IntKind.i64.wrap ((k : Int) + 1) = (k : Int) + 1 := IntWalk.i64_in _ (by omega)
    by_cases hkl : k < l.length
    · have hki : (k : Int) < (l.length : Int) := by omega
      have hkne : ((k : Int) == (l.length : Int)) = false := by rw [beq_eq_false_iff_ne]; omega
      have hix : ∀ w, (Instr.index 9 (.string (strOf l)) (.int .i64 (k : Int))).run Tryd.prog w = .ok (.int .u8 ((l[k]).toNat : Int)) w := fun w => run_index_str w l .i64 k hkl
      by_cases h61 : l[k] = 61
      · have hq : (((l[k]).toNat : Int) == 61) = true := by rw [h61]; rfl
        have hq' : ((l[k]).toNat : Int) = 61 := by rw [h61]; rfl
        have hm61 : (61 : UInt8) ∈ l := by rw [← h61]; exact List.getElem_mem hkl
        have hen : eqN l = l.take k := eqN_at l k hkl h61 HA.out
        have hnl : (l.take k).length = k := by rw [List.length_take]; omega
        have hck := cookie_eq hm61
        rw [hen, hnl] at hck
        have hlo := fun w => run_strlo (k := k + 1) l (by omega) w
        have hhi := fun w => run_strhi (k := k) l (by omega) w
        have HTK := hideIt (fun w => reftoken_any (l.take k) w (by omega))
        have hvl : (l.drop (k + 1)).length ≤ 1000000 := by rw [List.length_drop]; omega
        have hway := unq_way (l.drop (k + 1))
        have hul := unq_len (l.drop (k + 1))
        have HCK : Hid (∀ b, octL (unqL (l.drop (k + 1))) = b → tokenL (l.take k) = true → (cookieL l).isSome = b ∧ ∀ q, cookieL l = some q → (l.take k, unqL (l.drop (k + 1))) = q) := hideIt fun b hb ht => by
          rw [hck]
          unfold okC
          simp only [ht, hb, Bool.true_and]
          cases b
          · exact ⟨rfl, fun q h => by simp at h⟩
          · exact ⟨rfl, fun q h => by simpa using h⟩
        have HCN : Hid (tokenL (l.take k) = false → cookieL l = none) := hideIt fun ht => by
          rw [hck]
          unfold okC
          simp [ht]
        rw [show ((k + 1 : Nat) : Int) = (k : Int) + 1 by omega] at hlo
        clear hck hen hm61 h61
        generalize l.drop (k + 1) = v at *
        have hzv := strOf_size v
        generalize ((l[k]).toNat : Int) = ci at *
        cases ht : tokenL (l.take k)
        · rw [ht] at HTK
          have E := hideIt (HCN.out ht)
          have q0 := HPZ.out.cell0
          have q1 := HPZ.out.cell1
          have q2 := HPZ.out.open0
          have q3 := HPZ.out.open1
          have PS := hideIt (HPZ.out.set PairZ)
          have BS := hideIt (below_setP HBZ.out (Nat.le_refl _) (.string (strOf [])) (.string (strOf [])))
          clear HCN HCK hway hul hvl ht
          go_wp2_with fail
          refine (HTK.out _).mono ?_
          rintro e w2 ⟨rfl, rfl⟩
          go_wp2_with fail
          (try simp only [Exit.inBlock, Exit.then])
          refine bodyPost_ret (results_P Tryd.results43 _ _ w.heap.size PairZ _ rfl rfl (by exact PS.out)) rfl ?_
          exact ⟨PairZ, by rw [E.out]; rfl, (fun q hq => by rw [E.out] at hq; cases hq), BS.out⟩
        · rw [ht] at HTK
          have E := hideIt (fun b h => HCK.out b h ht)
          obtain ⟨u, hu⟩ : ∃ u, unqL v = u := ⟨_, rfl⟩
          rw [hu] at E hul hway
          have HUL : Hid (u.length ≤ 1000000) := hideIt (by omega)
          clear HCN HCK hul ht hu
          rcases hway with ⟨g1, g2⟩ | ⟨a, g1, g2, g3, g4⟩ | ⟨z, g1, g2, g3, g4, g5⟩ | ⟨g1, g2, g3, g4⟩
          · have p1 : ¬ (2 : Int) ≤ (v.length : Int) := by omega
            subst g2
            clear g1
            go_wp2_with fail
            refine (HTK.out _).mono ?_
            rintro e w2 ⟨rfl, rfl⟩
            go_upto_region 9 with fail
            refine region_tail 7 [Fact.str (l), Fact.is (.int .i64 ((k : Nat) : Int)), Fact.str (l.take k), Fact.str (u), Fact.is (.agg #[.string (strOf (l.take k)), .string (strOf u)]), Fact.str (u), Fact.is (.bool (octL u))] (by kernel_rfl) (by kernel_rfl) (by kernel_rfl) ⟨fun a w1 m => ?_, fun a w1 m => ?_, fun a w1 m => ?_, fun a w1 m => ?_, fun a w1 m => ?_, fun a w1 m => ?_, fun a w1 m => ?_, trivial⟩ ?_
            · exact ok_move (wanted_none rfl) (.tmp 0) rfl (m.old 0 rfl)
            · exact ok_move (wanted_none rfl) (.tmp 4) rfl (m.old 4 rfl)
            · exact ok_strHi (wanted_none rfl) (.tmp 55) (.tmp 56) rfl l k (m.has 0 55 rfl rfl) (m.has 1 56 rfl rfl) HKL.out
            · exact ok_move (wanted_none rfl) (.tmp 5) rfl (m.old 5 rfl)
            · exact ok_structP (wanted_none rfl) (.tmp 57) (.tmp 58) rfl _ _ (m.has 2 57 rfl rfl) (m.has 3 58 rfl rfl)
            · exact ok_move (wanted_none rfl) (.tmp 5) rfl (m.old 5 rfl)
            · exact ok_fn (wanted_none rfl) _ _ _ rfl _ (map1 (m.has 5 60 rfl rfl)) go_roct (roct_any u w1 HUL.out) (fun e w' ⟨h1, h2⟩ => ⟨_, h1, rfl, by rw [h2]; exact Below.refl _ _⟩)
            intro f w9 hg hf
            have e4 : f 4 = .agg #[.string (strOf (l.take k)), .string (strOf u)] := hf 4 (by decide)
            have e6 : f 6 = .bool (octL u) := hf 6 (by decide)
            have B9 := hideIt (below_then HBZ.out hg)
            clear hf
            simp only [List.take, List.drop, putAll, Act.put, List.setIfInBounds_toArray, List.set_cons_succ, List.set_cons_zero]
            rw [e4, e6]
            clear e4 e6
            have P9 := HPZ.out.keep hg HPZ.out.lt
            have q0 := P9.cell0
            have q1 := P9.cell1
            have q2 := P9.open0
            have q3 := P9.open1
            have PS := hideIt (P9.set (l.take k, u))
            have BS := hideIt (below_setP B9.out (Nat.le_refl _) (.string (strOf (l.take k))) (.string (strOf u)))
            have E9 := hideIt (E.out _ rfl)
            clear P9 hg B9 HPZ HBZ E
            go_wp2_with fail
            (try simp only [Exit.inBlock, Exit.then])
            refine bodyPost_ret (results_P Tryd.results43 _ _ w.heap.size (l.take k, u) _ rfl rfl (by exact PS.out)) rfl ?_
            exact ⟨(l.take k, u), by rw [E9.out.1]; rfl, E9.out.2, BS.out⟩
          · have p1 : (2 : Int) ≤ (v.length : Int) := by omega
            have i0 : ∀ w, (Instr.index 9 (.string (strOf v)) (.int .i64 0)).run Tryd.prog w = .ok (.int .u8 (a.toNat : Int)) w := fun w => by
              obtain ⟨h1, h2⟩ := List.getElem?_eq_some_iff.1 g2
              have := run_index_str w v .i64 0 h1
              rwa [h2] at this
            have p2 : ((a.toNat : Int) == 34) = false := by rw [beq_eq_false_iff_ne]; exact fun h => g3 (UInt8.toNat_inj.1 (by have : (34 : UInt8).toNat = 34 := rfl; omega))
            subst g4
            clear g1 g2 g3
            generalize (a.toNat : Int) = ai at *
            go_wp2_with fail
            refine (HTK.out _).mono ?_
            rintro e w2 ⟨rfl, rfl⟩
            go_upto_region 9 with fail
            refine region_tail 7 [Fact.str (l), Fact.is (.int .i64 ((k : Nat) : Int)), Fact.str (l.take k), Fact.str (u), Fact.is (.agg #[.string (strOf (l.take k)), .string (strOf u)]), Fact.str (u), Fact.is (.bool (octL u))] (by kernel_rfl) (by kernel_rfl) (by kernel_rfl) ⟨fun a w1 m => ?_, fun a w1 m => ?_, fun a w1 m => ?_, fun a w1 m => ?_, fun a w1 m => ?_, fun a w1 m => ?_, fun a w1 m => ?_, trivial⟩ ?_
            · exact ok_move (wanted_none rfl) (.tmp 0) rfl (m.old 0 rfl)
            · exact ok_move (wanted_none rfl) (.tmp 4) rfl (m.old 4 rfl)
            · exact ok_strHi (wanted_none rfl) (.tmp 55) (.tmp 56) rfl l k (m.has 0 55 rfl rfl) (m.has 1 56 rfl rfl) HKL.out
            · exact ok_move (wanted_none rfl) (.tmp 5) rfl (m.old 5 rfl)
            · exact ok_structP (wanted_none rfl) (.tmp 57) (.tmp 58) rfl _ _ (m.has 2 57 rfl rfl) (m.has 3 58 rfl rfl)
            · exact ok_move (wanted_none rfl) (.tmp 5) rfl (m.old 5 rfl)
            · exact ok_fn (wanted_none rfl) _ _ _ rfl _ (map1 (m.has 5 60 rfl rfl)) go_roct (roct_any u w1 HUL.out) (fun e w' ⟨h1, h2⟩ => ⟨_, h1, rfl, by rw [h2]; exact Below.refl _ _⟩)
            intro f w9 hg hf
            have e4 : f 4 = .agg #[.string (strOf (l.take k)), .string (strOf u)] := hf 4 (by decide)
            have e6 : f 6 = .bool (octL u) := hf 6 (by decide)
            have B9 := hideIt (below_then HBZ.out hg)
            clear hf
            simp only [List.take, List.drop, putAll, Act.put, List.setIfInBounds_toArray, List.set_cons_succ, List.set_cons_zero]
            rw [e4, e6]
            clear e4 e6
            have P9 := HPZ.out.keep hg HPZ.out.lt
            have q0 := P9.cell0
            have q1 := P9.cell1
            have q2 := P9.open0
            have q3 := P9.open1
            have PS := hideIt (P9.set (l.take k, u))
            have BS := hideIt (below_setP B9.out (Nat.le_refl _) (.string (strOf (l.take k))) (.string (strOf u)))
            have E9 := hideIt (E.out _ rfl)
            clear P9 hg B9 HPZ HBZ E
            go_wp2_with fail
            (try simp only [Exit.inBlock, Exit.then])
            refine bodyPost_ret (results_P Tryd.results43 _ _ w.heap.size (l.take k, u) _ rfl rfl (by exact PS.out)) rfl ?_
            exact ⟨(l.take k, u), by rw [E9.out.1]; rfl, E9.out.2, BS.out⟩
          · have p1 : (2 : Int) ≤ (v.length : Int) := by omega
            have i0 : ∀ w, (Instr.index 9 (.string (strOf v)) (.int .i64 0)).run Tryd.prog w = .ok (.int .u8 34) w := fun w => by
              obtain ⟨h1, h2⟩ := List.getElem?_eq_some_iff.1 g2
              have := run_index_str w v .i64 0 h1
              rwa [h2] at this
            have i1 : ∀ w, (Instr.index 9 (.string (strOf v)) (.int .i64 ((v.length - 1 : Nat) : Int))).run Tryd.prog w = .ok (.int .u8 (z.toNat : Int)) w := fun w => by
              obtain ⟨h1, h2⟩ := List.getElem?_eq_some_iff.1 g3
              have := run_index_str w v .i64 (v.length - 1) h1
              rwa [h2] at this
            have p2 : ((z.toNat : Int) == 34) = false := by rw [beq_eq_false_iff_ne]; exact fun h => g4 (UInt8.toNat_inj.1 (by have : (34 : UInt8).toNat = 34 := rfl; omega))
            have p3 : IntKind.i64.wrap ((v.length : Int) - 1) = ((v.length - 1 : Nat) : Int) := by rw [IntWalk.i64_in _ (by omega)]; omega
            generalize (z.toNat : Int) = zi at *
            clear g2 g3 g4
            generalize ((v.length - 1 : Nat) : Int) = vi at *
            subst g5
            clear g1
            go_wp2_with fail
            refine (HTK.out _).mono ?_
            rintro e w2 ⟨rfl, rfl⟩
            go_upto_region 9 with fail
            refine region_tail 7 [Fact.str (l), Fact.is (.int .i64 ((k : Nat) : Int)), Fact.str (l.take k), Fact.str (u), Fact.is (.agg #[.string (strOf (l.take k)), .string (strOf u)]), Fact.str (u), Fact.is (.bool (octL u))] (by kernel_rfl) (by kernel_rfl) (by kernel_rfl) ⟨fun a w1 m => ?_, fun a w1 m => ?_, fun a w1 m => ?_, fun a w1 m => ?_, fun a w1 m => ?_, fun a w1 m => ?_, fun a w1 m => ?_, trivial⟩ ?_
            · exact ok_move (wanted_none rfl) (.tmp 0) rfl (m.old 0 rfl)
            · exact ok_move (wanted_none rfl) (.tmp 4) rfl (m.old 4 rfl)
            · exact ok_strHi (wanted_none rfl) (.tmp 55) (.tmp 56) rfl l k (m.has 0 55 rfl rfl) (m.has 1 56 rfl rfl) HKL.out
            · exact ok_move (wanted_none rfl) (.tmp 5) rfl (m.old 5 rfl)
            · exact ok_structP (wanted_none rfl) (.tmp 57) (.tmp 58) rfl _ _ (m.has 2 57 rfl rfl) (m.has 3 58 rfl rfl)
            · exact ok_move (wanted_none rfl) (.tmp 5) rfl (m.old 5 rfl)
            · exact ok_fn (wanted_none rfl) _ _ _ rfl _ (map1 (m.has 5 60 rfl rfl)) go_roct (roct_any u w1 HUL.out) (fun e w' ⟨h1, h2⟩ => ⟨_, h1, rfl, by rw [h2]; exact Below.refl _ _⟩)
            intro f w9 hg hf
            have e4 : f 4 = .agg #[.string (strOf (l.take k)), .string (strOf u)] := hf 4 (by decide)
            have e6 : f 6 = .bool (octL u) := hf 6 (by decide)
            have B9 := hideIt (below_then HBZ.out hg)
            clear hf
            simp only [List.take, List.drop, putAll, Act.put, List.setIfInBounds_toArray, List.set_cons_succ, List.set_cons_zero]
            rw [e4, e6]
            clear e4 e6
            have P9 := HPZ.out.keep hg HPZ.out.lt
            have q0 := P9.cell0
            have q1 := P9.cell1
            have q2 := P9.open0
            have q3 := P9.open1
            have PS := hideIt (P9.set (l.take k, u))
            have BS := hideIt (below_setP B9.out (Nat.le_refl _) (.string (strOf (l.take k))) (.string (strOf u)))
            have E9 := hideIt (E.out _ rfl)
            clear P9 hg B9 HPZ HBZ E
            go_wp2_with fail
            (try simp only [Exit.inBlock, Exit.then])
            refine bodyPost_ret (results_P Tryd.results43 _ _ w.heap.size (l.take k, u) _ rfl rfl (by exact PS.out)) rfl ?_
            exact ⟨(l.take k, u), by rw [E9.out.1]; rfl, E9.out.2, BS.out⟩
          · have p1 : (2 : Int) ≤ (v.length : Int) := by omega
            have i0 : ∀ w, (Instr.index 9 (.string (strOf v)) (.int .i64 0)).run Tryd.prog w = .ok (.int .u8 34) w := fun w => by
              obtain ⟨h1, h2⟩ := List.getElem?_eq_some_iff.1 g2
              have := run_index_str w v .i64 0 h1
              rwa [h2] at this
            have i1 : ∀ w, (Instr.index 9 (.string (strOf v)) (.int .i64 ((v.length - 1 : Nat) : Int))).run Tryd.prog w = .ok (.int .u8 34) w := fun w => by
              obtain ⟨h1, h2⟩ := List.getElem?_eq_some_iff.1 g3
              have := run_index_str w v .i64 (v.length - 1) h1
              rwa [h2] at this
            have i2 : ∀ w, (Instr.slice 9 (.string (strOf v)) (some (.int .i64 1)) (some (.int .i64 ((v.length - 1 : Nat) : Int))) none).run Tryd.prog w = .ok (.string (strOf u)) w := fun w => by
              have := run_slice_str w v (some (.int .i64 ((1 : Nat) : Int))) (some (.int .i64 ((v.length - 1 : Nat) : Int))) .i64 .i64 1 (v.length - 1) (.inr rfl) (.inr rfl) (by omega) (by omega)
              rwa [← g4] at this
            have p3 : IntKind.i64.wrap ((v.length : Int) - 1) = ((v.length - 1 : Nat) : Int) := by rw [IntWalk.i64_in _ (by omega)]; omega
            clear g1 g2 g3 g4
            generalize ((v.length - 1 : Nat) : Int) = vi at *
            go_wp2_with fail
            refine (HTK.out _).mono ?_
            rintro e w2 ⟨rfl, rfl⟩
            go_upto_region 9 with fail
            refine region_tail 7 [Fact.str (l), Fact.is (.int .i64 ((k : Nat) : Int)), Fact.str (l.take k), Fact.str (u), Fact.is (.agg #[.string (strOf (l.take k)), .string (strOf u)]), Fact.str (u), Fact.is (.bool (octL u))] (by kernel_rfl) (by kernel_rfl) (by kernel_rfl) ⟨fun a w1 m => ?_, fun a w1 m => ?_, fun a w1 m => ?_, fun a w1 m => ?_, fun a w1 m => ?_, fun a w1 m => ?_, fun a w1 m => ?_, trivial⟩ ?_
            · exact ok_move (wanted_none rfl) (.tmp 0) rfl (m.old 0 rfl)
            · exact ok_move (wanted_none rfl) (.tmp 4) rfl (m.old 4 rfl)
            · exact ok_strHi (wanted_none rfl) (.tmp 55) (.tmp 56) rfl l k (m.has 0 55 rfl rfl) (m.has 1 56 rfl rfl) HKL.out
            · exact ok_move (wanted_none rfl) (.tmp 5) rfl (m.old 5 rfl)
            · exact ok_structP (wanted_none rfl) (.tmp 57) (.tmp 58) rfl _ _ (m.has 2 57 rfl rfl) (m.has 3 58 rfl rfl)
            · exact ok_move (wanted_none rfl) (.tmp 5) rfl (m.old 5 rfl)
            · exact ok_fn (wanted_none rfl) _ _ _ rfl _ (map1 (m.has 5 60 rfl rfl)) go_roct (roct_any u w1 HUL.out) (fun e w' ⟨h1, h2⟩ => ⟨_, h1, rfl, by rw [h2]; exact Below.refl _ _⟩)
            intro f w9 hg hf
            have e4 : f 4 = .agg #[.string (strOf (l.take k)), .string (strOf u)] := hf 4 (by decide)
            have e6 : f 6 = .bool (octL u) := hf 6 (by decide)
            have B9 := hideIt (below_then HBZ.out hg)
            clear hf
            simp only [List.take, List.drop, putAll, Act.put, List.setIfInBounds_toArray, List.set_cons_succ, List.set_cons_zero]
            rw [e4, e6]
            clear e4 e6
            have P9 := HPZ.out.keep hg HPZ.out.lt
            have q0 := P9.cell0
            have q1 := P9.cell1
            have q2 := P9.open0
            have q3 := P9.open1
            have PS := hideIt (P9.set (l.take k, u))
            have BS := hideIt (below_setP B9.out (Nat.le_refl _) (.string (strOf (l.take k))) (.string (strOf u)))
            have E9 := hideIt (E.out _ rfl)
            clear P9 hg B9 HPZ HBZ E
            go_wp2_with fail
            (try simp only [Exit.inBlock, Exit.then])
            refine bodyPost_ret (results_P Tryd.results43 _ _ w.heap.size (l.take k, u) _ rfl rfl (by exact PS.out)) rfl ?_
            exact ⟨(l.take k, u), by rw [E9.out.1]; rfl, E9.out.2, BS.out⟩
      · have hq : (((l[k]).toNat : Int) == 61) = false := by rw [beq_eq_false_iff_ne]; exact fun h => h61 (UInt8.toNat_inj.1 (by have : (61 : UInt8).toNat = 61 := rfl; omega))
        have hq' : ¬ ((l[k]).toNat : Int) = 61 := by rw [beq_eq_false_iff_ne] at hq; exact hq
        have N : Hid (∀ j (hj : j < l.length), j < k + 1 → l[j] ≠ 61) := hideIt fun j hj hjk => by
          by_cases hjk2 : j < k
          · exact HA.out j hj hjk2
          · obtain rfl : j = k := by omega
            exact h61
        clear h61 HA
        generalize ((l[k]).toNat : Int) = ci at *
        go_wp2_with fail
        go_roundw
        case rel => exact ⟨k + 1, hkl, by go_num, N.out, by trivial⟩
        case measure => simp [intOf]; omega
    · obtain rfl : k = l.length := by omega
      have hn61 : (61 : UInt8) ∉ l := fun hm => by
        obtain ⟨j, hj, e⟩ := List.getElem_of_mem hm
        exact HA.out j hj hj e
      have E : Hid (cookieL l = none) := hideIt (by unfold cookieL; rw [if_neg hn61])
      have q0 := HPZ.out.cell0
      have q1 := HPZ.out.cell1
      have q2 := HPZ.out.open0
      have q3 := HPZ.out.open1
      have PS := hideIt (HPZ.out.set PairZ)
      have BS := hideIt (below_setP HBZ.out (Nat.le_refl _) (.string (strOf [])) (.string (strOf [])))
      clear hn61 HA
      go_wp2_with fail
      (try simp only [Exit.inBlock, Exit.then])
      refine bodyPost_ret (results_P Tryd.results43 _ _ w.heap.size PairZ _ rfl rfl (by exact PS.out)) rfl ?_
      exact ⟨PairZ, by rw [E.out]; rfl, (fun q hq => by rw [E.out] at hq; cases hq), BS.out⟩
theorem go_rone : goFn Tryd.prog 43 = true := by kernel_rfl
end Go.Proofs.YtjfmlfakdijfjaaDoor
