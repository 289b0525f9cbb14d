/- The walk of HttpMost. -/
import Derived.Test.YtbojigimldfghaaDoorHttpMost
import Derived.Test.YtbojigimldfghaaDoorHttpFacts
import Derived.Test.YtbojigimldfghaaDoorInvTake
import Derived.Test.YtbojigimldfghaaDoorHttpDigits
import Derived.Test.YtbojigimldfghaaDoorHttpKnown
import Derived.Test.YtbojigimldfghaaDoorHttpLaid
import Derived.Deep.Cut
namespace Go.Proofs.YtbojigimldfghaaDoor
open Go.ChangeShapes Go.WideShapes Go.ChangeAt Go.RowKit
set_option linter.unusedVariables false
set_option linter.unusedSimpArgs false

def rowA (m j : Nat) : List UInt8 := List.replicate j 97 ++ List.replicate (m - j) 0
theorem rowA_set (m j : Nat) (h : j < m) : (rowA m j).set j 97 = rowA m (j + 1) := by
  unfold rowA
  rw [List.set_append_right _ _ (by simp), List.length_replicate, Nat.sub_self]
  obtain ⟨d, hd⟩ : ∃ d, m - j = d + 1 := ⟨m - j - 1, by omega⟩
  rw [hd, List.replicate_succ, List.set_cons_zero, show m - (j + 1) = d by omega, List.replicate_succ']
  simp
theorem rowA_len (m j : Nat) (h : j ≤ m) : (rowA m j).length = m := by simp [rowA]; omega
theorem rowA_full (m : Nat) : rowA m m = List.replicate m 97 := by simp [rowA]
section
variable {ops : Array Oper} {Q : Exit → Act → World → Prop} {G : Fact} {o : Oper} {a : Act} {w : World}
theorem ok_makeB (hg : Region.wanted o (yielded ops a.tmps) = true) (x : Operand) (ho : o.op = .makeSlice 22 x x) (n : Nat) (hx : a.eval x = .int .i64 (n : Int)) (hn : n ≤ 100000) : StepOk Tryd.prog ops Q (Fact.piece (List.replicate n 0)) o a w := by
  obtain ⟨i0, hi, hz0, hz1, hz2⟩ := info_parts info_u8
  obtain ⟨w', hr, hown, hgr⟩ := run_makeSlice_full (P := Tryd.prog) w w.heap.size 22 5 i0 (.int .u8 0) 1 Tryd.underlying22 hi hz0 hz1 .i64 .i64 n (by omega) (by rw [hz2]; omega) (by unfold maxLen; omega) (Nat.le_refl _)
  rw [show (Value.int .u8 0).cells = #[Value.int .u8 0] from rfl, toList_madeCells_one, Nat.mul_one] at hown
  have e : List.replicate n (Value.int .u8 0) = cellsOf (List.replicate n 0) := by simp [cellsOf]
  rw [e] at hown
  refine ok_run hg (.slice (some ⟨w.heap.size, 0, none⟩) n n) w' (by simp only [execOp, ho, hx, Sem.run_bind, hr, Result.andThen_ok, Sem.run_pure]) ⟨some ⟨w.heap.size, 0, none⟩, n, by rw [List.length_replicate], ⟨own_bytes hown, by simp, by simp only; omega, by simp; omega, by simp⟩⟩ (below_made hgr)
theorem ok_bytesQ (hg : Region.wanted o (yielded ops a.tmps) = true) (x : Operand) (ho : o.op = .convert 9 22 x) (bs : List UInt8) (hx : a.eval x = .string (strOf bs)) (hl : bs.length ≤ 1000000) : StepOk Tryd.prog ops Q (Fact.piece bs) o a w := by
  obtain ⟨c, w', hr, hp, hb⟩ := conv_str w bs hl
  exact ok_run hg _ w' (by simp only [execOp, ho, hx, Sem.run_bind, hr, Result.andThen_ok, Sem.run_pure]) ⟨_, c, rfl, hp⟩ hb
end

set_option maxRecDepth 8000 in
set_option maxHeartbeats 4000000 in
theorem httpMost_walk (a0 : Int) (a1 : Int) (w0 : (Lit.int .u8 a0).wf = true) (w1 : (Lit.int .u16 a1).wf = true) (w : World) (hT : Tabs w) :
    Calls Tryd.prog 7 #[.int .u8 a0, .int .u16 a1] w fun e w' => e = .returned (.bool true) ∧ Below w.heap.size w w' := by
  have hm : MaxOk w := hT
  have HM := hideIt hm
  have HK := hideIt (fun w' (hb : Below w.heap.size w w') => known9_any w' (hm.keep hb))
  have hb0 := bounds_u8 w0
  have hb1 := bounds_u16 w1
  obtain ⟨n, rfl⟩ : ∃ k : Nat, a0 = (k : Int) := ⟨a0.toNat, by omega⟩
  obtain ⟨k, rfl⟩ : ∃ k : Nat, a1 = (k : Int) := ⟨a1.toNat, by omega⟩
  have hq60 : n % 60 < 60 := Nat.mod_lt _ (by decide)
  have hm21 : k % 2100 < 2100 := Nat.mod_lt _ (by decide)
  have hs50 : k % 5000 < 5000 := Nat.mod_lt _ (by decide)
  have t1 : Int.tmod (n : Int) 60 = ((n % 60 : Nat) : Int) := by rw [Int.tmod_eq_emod_of_nonneg (by omega)]; omega
  have t2 : Int.tmod (k : Int) 2100 = ((k % 2100 : Nat) : Int) := by rw [Int.tmod_eq_emod_of_nonneg (by omega)]; omega
  have t3 : Int.tmod (k : Int) 5000 = ((k % 5000 : Nat) : Int) := by rw [Int.tmod_eq_emod_of_nonneg (by omega)]; omega
  have v1 : IntKind.u8.wrap ((n % 60 : Nat) : Int) = ((n % 60 : Nat) : Int) := by rw [IntKind.wrap_u8]; omega
  have v2 : IntKind.u16.wrap ((k % 2100 : Nat) : Int) = ((k % 2100 : Nat) : Int) := by rw [IntKind.wrap_u16]; omega
  have v3 : IntKind.u16.wrap ((k % 5000 : Nat) : Int) = ((k % 5000 : Nat) : Int) := by rw [IntKind.wrap_u16]; omega
  have x1 : IntKind.i64.wrap ((n % 60 : Nat) : Int) = ((n % 60 : Nat) : Int) := IntWalk.i64_in _ (by omega)
  have x2 : IntKind.i64.wrap ((k % 2100 : Nat) : Int) = ((k % 2100 : Nat) : Int) := IntWalk.i64_in _ (by omega)
  have x3 : IntKind.i64.wrap ((k % 5000 : Nat) : Int) = ((k % 5000 : Nat) : Int) := IntWalk.i64_in _ (by omega)
  have x4 : IntKind.i64.wrap (1 + ((n % 60 : Nat) : Int)) = 1 + ((n % 60 : Nat) : Int) := IntWalk.i64_in _ (by omega)
  clear w0 w1 hT hb0 hb1 hm
  generalize n % 60 = q at *
  generalize k % 2100 = m at *
  generalize k % 5000 = s at *
  go_enter Tryd.func7, Tryd.ntmps7
  go_wp2_with fail
  go_loopw [6, 7] (fun sv iv wr => ∃ j : Nat, j ≤ q ∧ iv = .int .i64 ((j : Int) + 1) ∧ sv = .string (strOf (mostS j)) ∧ wr = w) (fun sv iv wr => q + 1 - (intOf iv).toNat)
  case atStart => exact ⟨0, by omega, rfl, rfl, rfl⟩
  case round =>
    obtain ⟨j, hj, rfl, rfl, hw⟩ := hrel
    have hw2 := hw.symm
    subst hw2
    have hwi : IntKind.i64.wrap ((j : Int) + 1 + 1) = (j : Int) + 1 + 1 := IntWalk.i64_in _ (by omega)
    have hsz := mostS_len j
    have zs : (strOf (mostS j)).size ≤ 1000 := by rw [strOf_size]; omega
    by_cases hlt : j < q
    · have hlt' : (j : Int) + 1 < 1 + (q : Int) := by omega
      have ES : Hid (strOf (mostS j) ++ (⟨#[88, 58, 32, 49, 13, 10]⟩ : ByteArray) = strOf (mostS (j + 1))) := hideIt (by rw [mostS_succ, show (⟨#[88, 58, 32, 49, 13, 10]⟩ : ByteArray) = strOf [88, 58, 32, 49, 13, 10] from rfl, strOf_append])
      clear hsz
      generalize mostS j = S at *
      go_wp2_with fail
      go_roundw
      case rel => exact ⟨j + 1, by omega, by go_num, by rw [ES.out], by first | rfl | trivial⟩
      case measure => simp [intOf]; omega
    · obtain rfl : j = q := by omega
      have hlt' : ¬ (j : Int) + 1 < 1 + (j : Int) := by omega
      have HR1 := hideIt (mostS_req j)
      have hlist : (mostS j ++ crlf).length ≤ 1000 := by simp [crlf]; omega
      have EB : strOf (mostS j ++ crlf) = strOf (mostS j) ++ ⟨#[13, 10]⟩ := by rw [show (⟨#[13, 10]⟩ : ByteArray) = strOf crlf from rfl, strOf_append]
      obtain ⟨d1, u1, hcv, hp1, hb1⟩ := conv_str w (mostS j ++ crlf) (by omega)
      rw [EB] at hcv
      have HP := hideIt (parse_any _ (mostS j ++ crlf) _ d1 u1 hp1 rfl (by omega) (HM.out.keep hb1))
      have B1 := hideIt hb1
      have e1 : ∃ R, reqL (mostS j ++ crlf) = R := ⟨_, rfl⟩
      obtain ⟨R1, hR1⟩ := e1
      rw [hR1] at HP HR1
      clear hp1 hb1 hR1 hsz hlist EB hwi
      generalize (mostS j ++ crlf).length = nl at *
      generalize mostS j = S at *
      go_wp2_with fail
      refine HP.out.mono ?_
      rintro e u2 ⟨fv, A, c, rfl, hparts, hb⟩
      obtain ⟨FA, fc, rfl, _⟩ := hparts.fields.form
      have B2 := hideIt (below_then (below_then B1.out hb) (below_new u2 (.cells #[.string (strOf R1.1.m), .string (strOf R1.1.p), .slice FA R1.1.fs.length fc, .slice A R1.1.body.length c] 33)))
      clear hb hparts HP B1 hcv
      unfold reqV
      go_upto_region 8 with fail
      generalize u2.alloc (.cells #[.string (strOf R1.1.m), .string (strOf R1.1.p), .slice FA R1.1.fs.length fc, .slice A R1.1.body.length c] 33) = X at *
      generalize R1.2 = k1 at *
      obtain ⟨i0, hi, hz0, hz1, hz2⟩ := info_parts info_u8
      obtain ⟨Y, hmk, hown, hgr⟩ := run_makeSlice_full (P := Tryd.prog) X X.heap.size 22 5 i0 (.int .u8 0) 1 Tryd.underlying22 hi hz0 hz1 .i64 .i64 m (by omega) (by rw [hz2]; omega) (by unfold maxLen; omega) (Nat.le_refl _)
      rw [show (Value.int .u8 0).cells = #[Value.int .u8 0] from rfl, toList_madeCells_one, Nat.mul_one, show List.replicate m (Value.int .u8 0) = cellsOf (rowA m 0) by simp [cellsOf, rowA]] at hown
      have BY := hideIt (below_made hgr)
      have OY := hideIt hown
      have GB : Hid (w.heap.size ≤ X.heap.size) := hideIt B2.out.size
      clear hi hz0 hz1 hz2 hown hgr
      generalize hgx : X.heap.size = g at *
      have HG := hideIt hgx
      clear hgx
      go_wp2_with fail
      go_loopw [11] (fun iv wr => ∃ i : Nat, i ≤ m ∧ iv = .int .i64 (i : Int) ∧ wr.ownsRow g 5 1 (.slice (some ⟨g, 0, none⟩) m m) m (cellsOf (rowA m i)) ∧ Below g X wr) (fun iv wr => m - (intOf iv).toNat)
      case atStart => exact ⟨0, by omega, rfl, OY.out, BY.out⟩
      case round =>
        obtain ⟨i, hi, rfl, hown, hbz⟩ := hrel
        have hwi : IntKind.i64.wrap ((i : Int) + 1) = (i : Int) + 1 := IntWalk.i64_in _ (by omega)
        by_cases hlt : i < m
        · have hlt2 : (i : Int) < (m : Int) := by omega
          have hc := (hown.cellAt i (by omega)).trans (cellsOf_at (rowA m i) i (by rw [rowA_len m i (by omega)]; exact hlt))
          have hf := hown.frozenAt i
          have hst := hown.stored i (.int .u8 ((97 : UInt8).toNat : Int))
          rw [cellsOf_set, rowA_set m i hlt] at hst
          have RR : Hid (_ ∧ _) := hideIt ⟨hst.1, hbz.grown hst.2 (by have := HG.out; have := hbz.size; omega) (by intro y hy; cases hy; exact Nat.le_refl _)⟩
          clear hst hown hbz
          go_wp2_with fail
          go_roundw
          case rel => exact ⟨i + 1, by omega, by go_num, RR.out.1, RR.out.2⟩
          case measure => simp [intOf]; omega
        · obtain rfl : i = m := by omega
          have hlt2 : ¬ (i : Int) < (i : Int) := by omega
          rw [rowA_full] at hown
          have hcb := conv_bytes _ _ i i _ wr (own_bytes hown) (by simp)
          have BZ := hideIt (below_then B2.out (show Below X.heap.size X wr by rw [HG.out]; exact hbz))
          have HR2 := hideIt (mostP_req i)
          have hlen2 := mostP_len i
          obtain ⟨d2, u3, hcv, hp3, hb3⟩ := conv_str wr (mostP i) (by omega)
          have EP : strOf (mostP i) = ⟨#[71, 69, 84, 32, 47]⟩ ++ strOf (List.replicate i 97) ++ ⟨#[32, 72, 84, 84, 80, 47, 49, 46, 49, 13, 10, 72, 111, 115, 116, 58, 32, 97, 13, 10, 13, 10]⟩ := by
            rw [show (⟨#[71, 69, 84, 32, 47]⟩ : ByteArray) = strOf [71, 69, 84, 32, 47] from rfl, show (⟨#[32, 72, 84, 84, 80, 47, 49, 46, 49, 13, 10, 72, 111, 115, 116, 58, 32, 97, 13, 10, 13, 10]⟩ : ByteArray) = strOf [32, 72, 84, 84, 80, 47, 49, 46, 49, 13, 10, 72, 111, 115, 116, 58, 32, 97, 13, 10, 13, 10] from rfl, strOf_append, strOf_append]; rfl
          rw [EP] at hcv
          have zr : (strOf (List.replicate i (97 : UInt8))).size ≤ 3000 := by rw [strOf_size, List.length_replicate]; omega
          have HP := hideIt (parse_any _ (mostP i) _ d2 u3 hp3 rfl (by omega) (HM.out.keep (below_then BZ.out hb3)))
          have B3 := hideIt (below_then BZ.out hb3)
          obtain ⟨R2, hR2⟩ : ∃ R, reqL (mostP i) = R := ⟨_, rfl⟩
          rw [hR2] at HP HR2
          clear hown hbz hp3 hb3 hR2 hlen2 EP hwi BZ B2 BY OY hmk
          generalize (mostP i).length = nl2 at *
          generalize strOf (List.replicate i (97 : UInt8)) = sa at *
          go_wp2_with fail
          refine HP.out.mono ?_
          rintro e u4 ⟨fv, C, cc, rfl, hparts, hb⟩
          obtain ⟨GA, gc, rfl, _⟩ := hparts.fields.form
          have B4 := hideIt (below_then (below_then B3.out hb) (below_new u4 (.cells #[.string (strOf R2.1.m), .string (strOf R2.1.p), .slice GA R2.1.fs.length gc, .slice C R2.1.body.length cc] 33)))
          clear hb hparts HP B3 hcv
          unfold reqV
          go_upto_region 14 with fail
          generalize u4.alloc (.cells #[.string (strOf R2.1.m), .string (strOf R2.1.p), .slice GA R2.1.fs.length gc, .slice C R2.1.body.length cc] 33) = Z at *
          generalize R2.2 = k2 at *
          have HR3 := hideIt (mostB_req s hs50)
          obtain ⟨R3, hR3⟩ : ∃ R, reqL (mostB s) = R := ⟨_, rfl⟩
          rw [hR3] at HR3
          have l1 := bodyA_len s (by omega)
          have l2 := bodyB_len s (by omega)
          have l3 := mostB_len s hs50
          have MZ := HM.out.keep B4.out
          go_upto_region 15 with fail
          refine region_tailX 14 12 [Fact.is (.int .i64 (s : Int)), Fact.str (decimL s), Fact.str (bodyA s), Fact.str (bodyB s), Fact.is (.int .i64 (s : Int)), Fact.piece (List.replicate s 0), Fact.str (List.replicate s 0), Fact.str (mostB s), Fact.piece (mostB s), Fact.req R3, Fact.req R3, Fact.reqv R3.1, Fact.is (.int .u16 (R3.2 : Int)), Fact.fresh Z.heap.size] (by kernel_rfl) (by kernel_rfl) (by kernel_rfl) rfl (by kernel_rfl) (fun _ _ _ _ h => h) (fun a w1 m => ?_) ⟨fun a w1 m => ?_, fun a w1 m => ?_, fun a w1 m => ?_, fun a w1 m => ?_, fun a w1 m => ?_, fun a w1 m => ?_, fun a w1 m => ?_, fun a w1 m => ?_, fun a w1 m => ?_, fun a w1 m => ?_, fun a w1 m => ?_, fun a w1 m => ?_, fun a w1 m => ?_, fun a w1 m => ?_, trivial⟩ ?_
          · obtain ⟨fv, A2, c2, e, _⟩ := (m.has 10 60 rfl rfl : (Fact.req R3).p (a.eval (.tmp 60)) w1)
            exact ⟨.int .u16 (R3.2 : Int), Or.inl ⟨by rfl, fun w => by simp [execOp, e, Instr.extract]⟩, rfl⟩
          · exact ok_move (wanted_none rfl) (.tmp 14) rfl (m.old 14 rfl)
          · exact ok_fn (wanted_none rfl) _ _ _ rfl _ (map1 (m.has 0 61 rfl rfl)) go_digits (digits_any s w1 (by omega)) (by rintro e w' ⟨rfl, hb⟩; exact ⟨_, rfl, rfl, hb⟩)
          · exact ok_strcat (wanted_none rfl) _ (.tmp 62) _ rfl bodyHead _ _ rfl (m.has 1 62 rfl rfl) (by have e : (bodyHead ++ decimL s).length ≤ 60 := l1; rw [List.length_append] at e; omega) rfl
          · exact ok_strcat (wanted_none rfl) (.tmp 63) _ _ rfl _ [13, 10, 13, 10] _ (m.has 2 63 rfl rfl) rfl (by simp; omega) rfl
          · exact ok_move (wanted_none rfl) (.tmp 14) rfl (m.old 14 rfl)
          · exact ok_makeB (wanted_none rfl) (.tmp 65) rfl s (m.has 4 65 rfl rfl) (by omega)
          · exact ok_str (wanted_none rfl) (.tmp 66) rfl _ (m.has 5 66 rfl rfl)
          · exact ok_strcat (wanted_none rfl) (.tmp 64) (.tmp 67) _ rfl _ _ _ (m.has 3 64 rfl rfl) (m.has 6 67 rfl rfl) (by simp; omega) rfl
          · exact ok_bytesQ (wanted_none rfl) (.tmp 68) rfl _ (m.has 7 68 rfl rfl) (by omega)
          · exact ok_hparse (wanted_none rfl) (.tmp 69) _ rfl _ (m.has 8 69 rfl rfl) (by omega) (MZ.keep m.grew) _ hR3
          · exact ok_move (wanted_none rfl) (.tmp 70) rfl (m.has 9 70 rfl rfl)
          · exact ok_req0 (wanted_none rfl) (.tmp 60) rfl _ (m.has 10 60 rfl rfl)
          · exact ok_req1 (wanted_none rfl) (.tmp 60) rfl _ (m.has 10 60 rfl rfl)
          · exact ok_fresh (wanted_none rfl) rfl _ m.grew.size
          intro f w9 hg hf
          obtain ⟨fv, D, dc, e11, hparts⟩ := (hf 11 (by decide) : (Fact.reqv R3.1).p (f 11) w9)
          have e12 : f 12 = .int .u16 (R3.2 : Int) := hf 12 (by decide)
          obtain ⟨gq, e13, hgq, hQ⟩ := (hf 13 (by decide) : (Fact.fresh Z.heap.size).p (f 13) w9)
          obtain ⟨HA, hc, rfl, _⟩ := hparts.fields.form
          have q0 := hQ.c0
          have q1 := hQ.c1
          have q2 := hQ.c2
          have q3 := hQ.c3
          have z0 := hQ.fz 0
          have z1 := hQ.fz 1
          have z2 := hQ.fz 2
          have z3 := hQ.fz 3
          have B5 : Hid (∀ a b c d, Below w.heap.size w ((((w9.setCell ⟨gq, 0, none⟩ a).setCell ⟨gq, 1, none⟩ b).setCell ⟨gq, 2, none⟩ c).setCell ⟨gq, 3, none⟩ d)) := hideIt fun a b c d => below_setQ (below_then B4.out hg) (by have := B4.out.size; omega) a b c d
          simp only [List.take, List.drop, putAll, Act.put, List.setIfInBounds_toArray, List.set_cons_succ, List.set_cons_zero]
          rw [e11, e12, e13]
          unfold reqV
          clear hf hg hQ hparts e11 e12 e13 MZ l1 l2 l3 hR3 hgq
          generalize R3.2 = k3 at *
          go_upto_region 16 with fail
          go_wp2_with fail
          refine (HK.out _ (B5.out _ _ _ _)).mono ?_
          rintro e w10 ⟨rfl, hb⟩
          have B7 := hideIt (below_then (B5.out _ _ _ _) hb)
          clear hb q0 q1 q2 q3 z0 z1 z2 z3
          have hwl : IntKind.i64.wrap ((i : Int) + 14) = (i : Int) + 14 := IntWalk.i64_in _ (by omega)
          have c1 : k1 = 0 ∧ 1 + (j : Int) ≤ 40 ∨ k1 = 3 ∧ ¬ 1 + (j : Int) ≤ 40 := by
            have h := HR1.out
            by_cases hh : 1 + j ≤ 40
            · rw [if_pos hh] at h; exact Or.inl ⟨h, by omega⟩
            · rw [if_neg hh] at h; exact Or.inr ⟨h, by omega⟩
          have c2 : k2 = 0 ∧ (i : Int) + 14 ≤ 2000 ∨ k2 = 3 ∧ ¬ (i : Int) + 14 ≤ 2000 := by
            have h := HR2.out
            by_cases hh : i + 14 ≤ 2000
            · rw [if_pos hh] at h; exact Or.inl ⟨h, by omega⟩
            · rw [if_neg hh] at h; exact Or.inr ⟨h, by omega⟩
          have c3 : k3 = 0 ∧ (s : Int) ≤ 4000 ∨ k3 = 13 ∧ ¬ (s : Int) ≤ 4000 := by
            have h := HR3
            by_cases hh : s ≤ 4000
            · rw [if_pos hh] at h; exact Or.inl ⟨h, by omega⟩
            · rw [if_neg hh] at h; exact Or.inr ⟨h, by omega⟩
          clear HR1 HR2 HR3
          rcases c1 with ⟨rfl, d1⟩ | ⟨rfl, d1⟩ <;> rcases c2 with ⟨rfl, d2⟩ | ⟨rfl, d2⟩ <;> rcases c3 with ⟨rfl, d3⟩ | ⟨rfl, d3⟩
          all_goals
            go_wp2_with fail
            go_ret
            exact ⟨congrArg (fun b => Ending.returned (Value.bool b)) (by simp [d1, d2, d3]), B7.out⟩
end Go.Proofs.YtbojigimldfghaaDoor
